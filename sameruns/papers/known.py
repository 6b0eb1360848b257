"""The pass that uses what is known."""

from sameruns.middle.flows import Flow
from sameruns.papers.carrying import is_needless, sure_ways
from sameruns.papers.drafts import drafted
from sameruns.papers.judge import Paper
from sameruns.papers.matching import given_word, is_neutral, second_word


def known(flow):
    """Return the tuple of the after flow and the paper of this pass."""
    blocks, entries = drafted(flow, flow.blocks, known_deed)
    return (Flow(flow.name, flow.params, flow.count, flow.arrays, blocks), Paper((), entries))


def known_deed(walk, deed):
    """Return the deed that does the same as this one by what is known."""
    kind = deed[0]
    if kind in ("copy", "op", "with"):
        return known_value(walk, deed)
    if is_needless(walk, deed):
        return ("skip",)
    if kind == "fork":
        found = sure_ways(walk, deed)
        return ("jump", found[0]) if found else deed
    return deed


def known_value(walk, deed):
    """Return the plainest deed that gives the word of a copy, op or with."""
    word = given_word(walk, deed)
    if word is not None:
        return ("word", deed[1], word)
    second = second_word(walk, deed)
    if second is None:
        return deed
    if is_neutral(deed[2], second):
        return ("copy", deed[1], deed[3])
    return ("with", deed[1], deed[2], deed[3], second)
