"""Point 75: the checker."""

import random
import unittest

from sameruns.basics.errors import BadFlow, BadLength, BadSite, Stray, Twice, Unknown
from sameruns.homes.choosing import choose
from sameruns.homes.fitting import fits
from sameruns.homes.renaming import renamed
from sameruns.lang.unitreading import read_unit
from sameruns.lang.units import Unit, parted
from sameruns.middle.flows import Flow
from sameruns.middle.lowering import lower
from sameruns.machine.machine import run_image
from sameruns.objects.linking import link
from sameruns.objects.objects import Object
from sameruns.papers.common import common
from sameruns.papers.dead import dead
from sameruns.papers.drafts import as_it_is, drafted
from sameruns.papers.fixed import fixed
from sameruns.papers.judge import Paper, judge
from sameruns.papers.known import known
from sameruns.papers.laid import calls_of, can_lay, laid, laid_at
from sameruns.papers.skips import padded, swept
from sameruns.rows.emitting import emitted
from sameruns.source.source import run_source
from sameruns.whole.certificates import accepts
from sameruns.whole.compiling import Certificate, certified
from tests.drawing import drawn_cut, drawn_declarations
from tests.secondjudge import accepts as judged
from tests.test_homes import conflicts, lasting, may_be
from tests.test_whole import drawn_passes

TEXT = """word g = 2; word t[4]; word leaf(word n) { return n * 3 + g; } word two(word n) { leaf(n); return leaf(n + 1); }
word main() { word i; word s; while (i < 4) { i = i + 1; t[i & 3] = two(i) + i * 0; s = s + leaf(t[i & 3] / i); tell s; } return two(s); }"""
UNIT = read_unit(TEXT)
PASSES = {"known": known, "common": common, "dead": dead, "fixed": fixed}


def gathered(unit, flows, homes):
    """The object of these flows with these homes."""
    pieces = [emitted(renamed(flow, own)) for flow, own in zip(flows, homes)]
    words = [(row[1], 0, row[2]) for row in unit.declarations if row[0] == "word"]
    arrays = [(row[1], row[2], 0) for row in unit.declarations if row[0] == "array"]
    return Object.gathered(tuple(pieces), tuple(words + arrays), tuple([(use[1], use[0], (*use, 0)[2]) for use in unit.uses]))


def second_flows(unit, certificate):
    """The flows behind the stages of a certificate that should be accepted."""
    flows = lower(unit).flows
    for kind, rows in certificate.stages:
        if kind == "laid":
            flows = tuple([laid_at(flow, flows, sites) for flow, sites in zip(flows, rows)])
        else:
            flows = tuple([flow if row is None else swept(row[0]) for flow, row in zip(flows, rows)])
    return flows


def second_checker(unit, made, certificate):
    """A second reading of point 75, for a unit that may be lowered."""
    flows = lower(unit).flows
    if certificate.free not in range(21):
        return False
    for kind, rows in certificate.stages:
        if kind not in ("judged", "laid") or len(rows) != len(flows):
            return False
        if kind == "judged":
            if not all(row is None or judged(flow, *row) for flow, row in zip(flows, rows)):
                return False
            flows = [flow if row is None else swept(row[0]) for flow, row in zip(flows, rows)]
        else:
            try:
                flows = [laid_at(flow, tuple(flows), sites) for flow, sites in zip(flows, rows)]
            except (BadSite, BadFlow):
                return False
            if any(flow.count > 400 or len(flow.blocks) > 320 or sum(map(len, flow.blocks)) > 1200 for flow in flows):
                return False
    homes = certificate.homes
    if [flow.count for flow in flows] != [len(own) for own in homes] or max([0, *map(len, homes)]) > 320:
        return False
    if not all(may_be(own, certificate.free, conflicts(flow), lasting(flow)) for flow, own in zip(flows, homes)):
        return False
    return made.parts() == gathered(unit, flows, homes).parts()


class CheckerTest(unittest.TestCase):
    def answer(self, answer, unit, made, certificate):
        before = (unit.parts(), made.parts(), certificate.parts())
        self.assertIs(accepts(unit, made, certificate), answer)
        self.assertEqual((unit.parts(), made.parts(), certificate.parts()), before)

    def own(self, unit, stages, free=8, homes=None, answer=True):
        """Check a certificate with these stages and its own object; return the object."""
        flows = second_flows(unit, Certificate(free, stages, ()))
        if homes is None:
            homes = tuple([choose(flow, free) for flow in flows])
        made = gathered(unit, flows, homes)
        self.answer(answer, unit, made, Certificate(free, stages, homes))
        return made


class CompilerTest(CheckerTest):
    def test_what_the_compiler_makes(self):
        for passes in ((), ("known",), ("common",), ("dead",), ("fixed",), ("laid",), ("laid", "known", "fixed", "common", "dead", "laid", "laid", "known")):
            for free in (0, 3, 20):
                made, certificate = certified(UNIT, *passes, free=free)
                self.answer(True, UNIT, made, certificate)
        for unit in (Unit((), ()), read_unit("use word q; word h = 4;")):
            self.answer(True, unit, *certified(unit, "laid", "dead"))

    def test_drawn_units(self):
        for seed in range(50):
            chance = random.Random(seed)
            unit = Unit((), drawn_declarations(seed, 4, 60))
            for one in parted(unit, drawn_cut(seed, len(unit.declarations))):
                self.answer(True, one, *certified(one, *drawn_passes(chance), free=chance.randint(0, 20)))

    def test_the_errors_of_a_unit(self):
        made, certificate = certified(UNIT)
        for unit, error in ((read_unit("word f() { tell x; }"), Unknown), (read_unit("word g; word g;"), Twice), (read_unit("word t[1001];"), BadLength),
                            (read_unit("word f() { continue; }"), Stray)):
            for other in (certificate, Certificate(-1, (("x", ()),), ())):
                with self.assertRaises(error):
                    accepts(unit, made, other)


class ChangedTest(CheckerTest):
    """What the compiler makes, with one thing changed."""

    def setUp(self):
        self.made, self.certificate = certified(UNIT, "laid", "known", "fixed", "dead", free=5)
        self.answer(True, UNIT, self.made, self.certificate)

    def refuse(self, free=None, stages=None, homes=None, made=None, unit=UNIT):
        one = self.certificate
        changed = Certificate(one.free if free is None else free, one.stages if stages is None else stages, one.homes if homes is None else homes)
        self.answer(False, unit, made or self.made, changed)

    def compare(self, stages=None, homes=None):
        """Compare the answer with the second reading; return it."""
        changed = Certificate(5, self.certificate.stages if stages is None else stages, self.certificate.homes if homes is None else homes)
        found = second_checker(UNIT, self.made, changed)
        self.answer(found, UNIT, self.made, changed)
        return found

    def test_another_unit(self):
        for old, new in (("g = 2", "g = 3"), ("n * 3", "n * 4"), ("t[4]", "t[5]"), ("tell s", "tell i"), ("word leaf", "word loaf"), ("word g = 2; ", ""),
                         ("word g = 2; word t[4];", "word t[4]; word g = 2; word h;")):
            text = TEXT.replace(old, new)
            if new == "":
                text = "use word g; " + text
            if new == "word loaf":
                text = TEXT.replace("leaf", "loaf")
            self.refuse(unit=read_unit(text))

    def test_free(self):
        for free in (-1, 21, -2 ** 40, 2 ** 40, 0, 1, 4):
            self.refuse(free=free)
        # With more free registers the same homes fit.
        for free in range(5, 21):
            self.answer(True, UNIT, self.made, Certificate(free, self.certificate.stages, self.certificate.homes))

    def test_stages(self):
        stages = self.certificate.stages
        answers = []
        for index in range(len(stages)):
            answers.append(self.compare(stages[:index] + stages[index + 1:]))
            answers.append(self.compare(stages[:index] + stages[:1] + stages[index:]))
            answers.append(self.compare(stages[:index] + stages[index:index + 1] + stages[index:]))
            kind, rows = stages[index]
            for other in ("", "Judged", "known", "none"):
                self.refuse(stages=(*stages[:index], (other, rows), *stages[index + 1:]))
            for changed in (rows[:-1], (*rows, rows[-1]), (), rows[::-1]):
                self.refuse(stages=(*stages[:index], (kind, changed), *stages[index + 1:]))
        self.assertGreater(answers.count(False), 8)
        self.refuse(stages=())
        self.refuse(stages=stages[::-1])

    def test_items(self):
        stages = self.certificate.stages
        for index in (1, 2, 3):
            kind, rows = stages[index]
            for number, (after, paper) in enumerate(rows):
                entries = paper.entries
                others = [Paper(paper.spots, entries[:-1]), Paper(paper.spots, (*entries, entries[-1])), Paper(paper.spots, ()),
                          Paper(paper.spots, (None, *entries[1:])), Paper((*paper.spots, (0, 0)), entries), Paper(((-1, 0),), entries),
                          Paper(paper.spots, ((tuple(range(500)), ()), *entries[1:])), Paper(paper.spots, (((-1,), ()), *entries[1:])),
                          Paper(paper.spots, ((entries[0][0], (("word", 0, 99999),)), *entries[1:])), Paper(((10 ** 9, -5),), entries)]
                for other in others:
                    self.refuse(stages=self.with_item(index, number, (after, other)))
                self.refuse(stages=self.with_item(index, number, (Flow("x", after.params, after.count, after.arrays, after.blocks), paper)))
                self.refuse(stages=self.with_item(index, number, (Flow(after.name, after.params, after.count, (1,), after.blocks), paper)))
                self.refuse(stages=self.with_item(index, number, (Flow(after.name, after.params, after.count, after.arrays, (*after.blocks, (("jump", 0),))), paper)))
                told = (("tell", 0, ((after.name, 0),)), *after.blocks[0])
                self.refuse(stages=self.with_item(index, number, (Flow(after.name, after.params, after.count, after.arrays, (told, *after.blocks[1:])), paper)))

    def with_item(self, index, number, item):
        stages = self.certificate.stages
        kind, rows = stages[index]
        return (*stages[:index], (kind, (*rows[:number], item, *rows[number + 1:])), *stages[index + 1:])

    def test_items_that_are_none(self):
        # Where a stage changes nothing for a flow, all is the same without it.
        answers = []
        for index, (kind, rows) in enumerate(self.certificate.stages):
            if kind == "judged":
                answers += [self.compare(self.with_item(index, number, None)) for number in range(len(rows))]
        self.assertIn(True, answers)
        self.assertIn(False, answers)

    def test_sites(self):
        kind, sites = self.certificate.stages[0]
        self.assertEqual(sites, ((), (0, 1), (1,)))
        for other in (((), (0, 1), ()), ((), (0, 1), (0,)), ((), (0, 1), (2,)), ((), (0, 1), (1, 2)), ((), (1, 0), (1,)), ((), (0, 0), (1,)), ((), (0,), (1,)),
                      ((0,), (0, 1), (1,)), ((), (-1, 0), (1,)), ((), (0, 1, 2), (1,)), ((), (0, 1), (3,)), ((), (0, 1), (1, 10 ** 9))):
            self.refuse(stages=((kind, other), *self.certificate.stages[1:]))
            # Also if the object is made from it, where that can be done.
            self.answer(False, UNIT, self.made, Certificate(5, ((kind, other),), self.certificate.homes))

    def test_homes(self):
        homes = self.certificate.homes
        for number, own in enumerate(homes):
            self.refuse(homes=(*homes[:number], *homes[number + 1:]))
            self.refuse(homes=(*homes[:number], own[:-1], *homes[number + 1:]))
            self.refuse(homes=(*homes[:number], (*own, 32), *homes[number + 1:]))
            self.refuse(homes=(*homes[:number], (), *homes[number + 1:]))
            for variable in range(len(own)):
                for home in (0, 2, 5, 27, 12, 352, 1000, -1, -8, 31, 2 ** 40, 28):
                    self.refuse(homes=(*homes[:number], (*own[:variable], home, *own[variable + 1:]), *homes[number + 1:]))
                for home in (8, 18, 32):
                    self.compare(homes=(*homes[:number], (*own[:variable], home, *own[variable + 1:]), *homes[number + 1:]))
            # Homes that fit, but are not those of the object.
            other = tuple(range(32, 32 + len(own)))
            if other != own:
                self.refuse(homes=(*homes[:number], other, *homes[number + 1:]))
        self.refuse(homes=())
        self.refuse(homes=(*homes, ()))
        self.refuse(homes=homes[::-1])

    def test_homes_that_do_not_fit(self):
        # With the object that they would give.
        flows = second_flows(UNIT, self.certificate)
        refused = 0
        for number, own in enumerate(self.certificate.homes):
            for variable in range(len(own)):
                for home in (8, 10, 9, 32, 33):
                    homes = (*self.certificate.homes[:number], (*own[:variable], home, *own[variable + 1:]), *self.certificate.homes[number + 1:])
                    if not fits(flows[number], homes[number], 5) and len(set(homes[number][v] for v in flows[number].params)) == len(flows[number].params):
                        self.answer(False, UNIT, gathered(UNIT, flows, homes), Certificate(5, self.certificate.stages, homes))
                        refused += 1
        self.assertGreater(refused, 20)

    def test_the_object(self):
        words, functions, data, needs, places, marks = parts = self.made.parts()
        for field in range(6):
            for at in range(len(parts[field])):
                rows = list(parts[field])
                del rows[at]
                self.refuse(made=Object(*parts[:field], tuple(rows), *parts[field + 1:]))
                rows = list(parts[field])
                rows.insert(at, rows[at])
                self.refuse(made=Object(*parts[:field], tuple(rows), *parts[field + 1:]))
        for at, word in enumerate(words):
            for bit in (0, 7, 20, 31):
                self.refuse(made=Object((*words[:at], word ^ 1 << bit, *words[at + 1:]), *parts[1:]))
        for at, (name, start, params, frame) in enumerate(functions):
            for row in (("x", start, params, frame), (name, start + 1, params, frame), (name, start, params + 1, frame), (name, start, params, frame + 4)):
                self.refuse(made=Object(words, (*functions[:at], row, *functions[at + 1:]), *parts[2:]))
        self.refuse(made=Object(words, functions, (("g", 0, 3), *data[1:]), needs, places, marks))
        self.refuse(made=Object(words, functions, data[::-1], needs, places, marks))
        self.refuse(made=Object(words, functions, data, (("q", "word", 0),), places, marks))
        for at, (index, kind, name) in enumerate(places):
            for row in ((index + 1, kind, name), (index, "low" if kind == "high" else "high", name), (index, kind, "x")):
                self.refuse(made=Object(words, functions, data, needs, (*places[:at], row, *places[at + 1:]), marks))
        for at, (index, kind, chain) in enumerate(marks):
            for row in ((index + 1, kind, chain), (index, "divide" if kind != "divide" else "tell", chain), (index, kind, (("main", 150),)), (index, kind, chain * 2)):
                self.refuse(made=Object(words, functions, data, needs, places, (*marks[:at], row, *marks[at + 1:])))


class OtherCertificatesTest(CheckerTest):
    """Certificates that the compiler would not make."""

    def runs(self, unit, made, depth=32):
        """The run of an object against that of the source."""
        source = run_source([unit], depth=depth, rounds=12, steps=4000)
        if source.steps < 4000:
            self.assertEqual(run_image(link(made, depth=depth), rounds=12, steps=1000000).shown(), source.shown())

    def test_homes_that_are_all_different(self):
        for seed in range(30):
            unit = Unit((), drawn_declarations(seed, 4, 60))
            flows = lower(unit).flows
            homes = tuple([tuple(range(32, 32 + flow.count)) for flow in flows])
            self.runs(unit, self.own(unit, (), free=seed % 21, homes=homes))
            homes = tuple([tuple(range(351, 351 - flow.count, -1)) for flow in flows])
            self.runs(unit, self.own(unit, (), free=seed % 21, homes=homes))

    def test_stages_for_some_flows(self):
        for seed in range(60):
            chance = random.Random(seed)
            unit = Unit((), drawn_declarations(seed, 4, 60))
            flows, stages = lower(unit).flows, []
            for _ in range(4):
                rows = []
                for flow in flows:
                    name = chance.choice((None, *PASSES))
                    rows.append(PASSES[name](flow) if name else None)
                stages.append(("judged", tuple(rows)))
                flows = tuple([flow if row is None else swept(row[0]) for flow, row in zip(flows, rows)])
                if chance.random() < 0.5:
                    sites = tuple([self.some_sites(chance, flow, flows) for flow in flows])
                    stages.append(("laid", sites))
                    flows = tuple([laid_at(flow, flows, own) for flow, own in zip(flows, sites)])
            self.runs(unit, self.own(unit, tuple(stages), free=chance.randint(0, 20)), chance.choice((1, 3, 32)))

    def some_sites(self, chance, flow, flows):
        """Some of the sites at which a flow may be laid."""
        names = {one.name: one for one in flows if can_lay(one)}
        found = [site for site, (block, position) in enumerate(calls_of(flow)) if flow.blocks[block][position][2] in names]
        found = [site for site in found if chance.random() < 0.4][:3]
        most = laid(flow, flows)[1]
        return tuple([site for site in found if site in most])

    def test_padded_flows(self):
        for seed in range(40):
            chance = random.Random(seed)
            unit = Unit((), drawn_declarations(seed, 4, 60))
            rows = []
            for flow in lower(unit).flows:
                places = [(number, at) for number, block in enumerate(flow.blocks) for at in range(len(block))]
                spots = tuple(sorted([chance.choice(places) for _ in range(chance.randint(0, 5))]))
                after = padded(flow, spots)
                rows.append((after, Paper(spots, drafted(after, after.blocks, as_it_is)[1])))
            made = self.own(unit, (("judged", tuple(rows)),))
            self.assertEqual(made.parts(), certified(unit)[0].parts())

    def test_more_variables(self):
        flows = lower(UNIT).flows
        rows = []
        for flow in flows:
            after = Flow(flow.name, flow.params, flow.count + 3, flow.arrays, flow.blocks)
            rows.append((after, Paper((), drafted(flow, after.blocks, as_it_is)[1])))
        stages = (("judged", tuple(rows)),)
        self.runs(UNIT, self.own(UNIT, stages))
        # The homes must be as many as the variables of the last flows.
        homes = tuple([choose(flow, 8) for flow in flows])
        self.answer(False, UNIT, gathered(UNIT, flows, homes), Certificate(8, stages, homes))

    def test_at_most_320_variables(self):
        unit = read_unit("word main() { tell 1; }")
        flow = lower(unit).flows[0]
        for count in (319, 320, 321, 400):
            after = Flow(flow.name, flow.params, count, flow.arrays, flow.blocks)
            stages = (("judged", ((after, Paper((), drafted(flow, after.blocks, as_it_is)[1])),)),)
            self.own(unit, stages, homes=((8,) * count,), answer=count <= 320)

    def test_the_bounds_of_laid_flows(self):
        """Calls that may be laid, but not so many of them."""
        tells = "tell n; " * 60
        calls = "f(1); " * 60
        unit = read_unit(f"word f(word n) {{ {tells} }} word main() {{ {calls} }}")
        flows = lower(unit).flows
        for many in range(5, 25):
            sites = ((), tuple(range(many)))
            flow = laid_at(flows[1], flows, sites[1])
            deeds = sum([len(block) for block in flow.blocks])
            fine = flow.count <= 400 and len(flow.blocks) <= 320 and deeds <= 1200
            if flow.count <= 320 or not fine:
                homes = (choose(flows[0], 8), choose(flow, 8) if flow.count <= 320 else ())
                made = gathered(unit, (flows[0], flow), homes) if flow.count <= 320 else gathered(unit, (), ())
                self.answer(fine, unit, made, Certificate(8, (("laid", sites),), homes))
        self.assertFalse(fine)
        # All sites at once, also those that come behind the bounds.
        self.answer(False, unit, made, Certificate(8, (("laid", ((), tuple(range(60)))),), homes))

    def laid_main(self, text, many):
        """Lay the first calls of main; return whether that is accepted, and the laid flow."""
        unit = read_unit(text)
        flows = lower(unit).flows
        sites = ((), tuple(range(many)))
        flow = laid_at(flows[1], flows, sites[1])
        homes = (choose(flows[0], 8), choose(flow, 8))
        certificate = Certificate(8, (("laid", sites),), homes)
        return accepts(unit, gathered(unit, (flows[0], flow), homes), certificate), flow

    def test_exactly_at_the_bounds_of_laid_flows(self):
        found = {}
        for ifs in range(50, 54):
            for whiles in (0, 1):
                for more in range(3):
                    body = "if (n) { } " * ifs + "while (n) { n = 0; } " * whiles
                    answer, flow = self.laid_main(f"word f(word n) {{ {body} }} word main() {{ {'if (1) { } ' * more} f(1); f(2); f(3); }}", 3)
                    self.assertEqual(answer, len(flow.blocks) <= 320)
                    found[len(flow.blocks)] = answer
        self.assertEqual([found[count] for count in (319, 320, 321, 322)], [True, True, False, False])
        found = {}
        for tells in (58, 59):
            for more in range(8):
                for ifs in (0, 1):
                    body = f"{'tell 1; ' * more} {'if (1) { } ' * ifs} {'f(1); ' * 18}"
                    answer, flow = self.laid_main(f"word f(word n) {{ {'tell n; ' * tells} }} word main() {{ {body} }}", 18)
                    deeds = sum([len(block) for block in flow.blocks])
                    self.assertEqual(answer, deeds <= 1200)
                    found[deeds] = answer
        self.assertEqual([found[count] for count in (1199, 1200, 1201, 1202)], [True, True, False, False])

    def test_the_bounds_of_blocks_and_variables(self):
        choices = "if (n) { } " * 60
        unit = read_unit(f"word f(word n) {{ {choices} }} word main() {{ f(1); f(2); f(3); f(4); }}")
        flows = lower(unit).flows
        for many in range(5):
            flow = laid_at(flows[1], flows, tuple(range(many)))
            homes = (choose(flows[0], 8), choose(flow, 8))
            fine = len(flow.blocks) <= 320
            self.assertEqual(fine, many < 3)
            self.answer(fine, unit, gathered(unit, (flows[0], flow), homes), Certificate(8, (("laid", ((), tuple(range(many)))),), homes))
        numbers = "tell 1; " * 60
        unit = read_unit(f"word f(word n) {{ {numbers} }} word main() {{ f(1); f(2); f(3); f(4); f(5); f(6); f(7); }}")
        flows = lower(unit).flows
        for many in range(8):
            flow = laid_at(flows[1], flows, tuple(range(many)))
            # At most 400 by the stage, and at most 320 at the end; a pass may not take variables away.
            homes = (choose(flows[0], 8), (8,) * flow.count)
            fine = flow.count <= 320 and fits(flow, homes[1], 8)
            self.answer(fine, unit, gathered(unit, (flows[0], flow), homes), Certificate(8, (("laid", ((), tuple(range(many)))),), homes))

    def test_chains_of_more_than_8_places(self):
        for given, taken in (("", ""), ("1", "word n"), ("1, 2, 3, 4, 5, 6", "word n, word a, word b, word c, word d, word e")):
            unit = read_unit(" ".join([f"word f0({taken}) {{ tell 5; return 1 / 0; }}",
                                       *[f"word f{k}({taken}) {{ return f{k - 1}({given}); }}" for k in range(1, 9)],
                                       f"word main() {{ return f8({given}); }}"]))
            flows, stages = lower(unit).flows, []
            for stage in range(1, 10):
                sites = tuple([(0,) if number == stage else () for number in range(10)])
                stages.append(("laid", sites))
                if stage < 8:
                    flows = tuple([laid_at(flow, flows, own) for flow, own in zip(flows, sites)])
                    self.runs(unit, self.own(unit, tuple(stages)))
                else:
                    # The chain would have 9 places.
                    homes = tuple([choose(flow, 8) for flow in flows])
                    made = gathered(unit, flows, homes)
                    self.answer(False, unit, made, Certificate(8, tuple(stages), homes))
                    self.answer(True, unit, made, Certificate(8, tuple(stages[:7]), homes))

    def test_laying_takes_the_flows_before_the_stage(self):
        unit = read_unit("word f(word n) { return n; } word k(word n) { return f(n); } word main() { return k(1); }")
        flows = lower(unit).flows
        homes = tuple([choose(flow, 8) for flow in flows])
        made = gathered(unit, flows, homes)
        # k calls f before the stage, so it cannot be laid in yet.
        self.answer(False, unit, made, Certificate(8, (("laid", ((), (0,), (0,))),), homes))
        self.own(unit, (("laid", ((), (0,), ())), ("laid", ((), (), (0,)))))

    def test_calls_of_other_units_are_no_sites(self):
        unit = read_unit("use word f(1); word main() { return f(1); }")
        made, certificate = certified(unit)
        self.answer(False, unit, made, Certificate(8, (("laid", ((0,),)),), certificate.homes))
        self.answer(True, unit, made, Certificate(8, (("laid", ((),)),), certificate.homes))

    def test_changed_flows_with_papers(self):
        """Flows with drawn changes: what the judge accepts is accepted, and runs as the source does."""
        accepted, refused = 0, 0
        for seed in range(400):
            chance = random.Random(seed)
            unit = Unit((), drawn_declarations(seed, 3, 50))
            rows = []
            for flow in lower(unit).flows:
                start = chance.choice((flow, flow, known(flow)[0], common(flow)[0]))
                after = self.changed(chance, start)
                paper = Paper((), drafted(flow, after.blocks, as_it_is)[1])
                rows.append((after, paper))
            stages = (("judged", tuple(rows)),)
            fine = all([judge(flow, after, paper) for flow, (after, paper) in zip(lower(unit).flows, rows)])
            made = self.own(unit, stages, free=chance.randint(0, 20), answer=fine)
            if fine:
                self.runs(unit, made, chance.choice((1, 2, 32)))
                accepted += 1
            else:
                refused += 1
        self.assertGreater(min(accepted, refused), 60)

    def changed(self, chance, flow):
        """A flow with one deed exchanged for another one, where that gives a valid flow."""
        blocks = [list(block) for block in flow.blocks]
        places = [(number, at) for number, block in enumerate(blocks) for at in range(len(block) - 1)]
        if not places or flow.count == 0:
            return flow
        number, at = chance.choice(places)
        variable = chance.randrange(flow.count)
        deed = blocks[number][at]
        assigned = deed[1] if deed[0] in ("word", "copy", "op", "with", "read", "load") else None
        others = [("skip",), deed]
        if assigned is not None:
            others += [("copy", assigned, variable), ("word", assigned, chance.choice((0, 1, 2))), ("with", assigned, "add", variable, 0)] * 2
        if deed[0] == "op":
            others.append((*deed[:3], variable, deed[4]))
        blocks[number][at] = chance.choice(others)
        return Flow(flow.name, flow.params, flow.count, flow.arrays, tuple([tuple(block) for block in blocks]))


if __name__ == "__main__":
    unittest.main()
