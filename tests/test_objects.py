"""Points 59 to 61: objects, their sums, and gathered objects."""

import unittest

from sameruns.homes.choosing import choose
from sameruns.homes.renaming import renamed
from sameruns.lang.unitreading import read_unit
from sameruns.middle.flows import Flow
from sameruns.middle.lowering import lower
from sameruns.objects.objects import Object
from sameruns.rows.emitting import emitted
from tests.objectdrawing import drawn_object

AT = (("f", 1),)
EMPTY = ((), (), (), (), (), ())


def second_sum(a, b):
    """Point 60, for the parts of two objects."""
    many = len(a[0])
    needs = list(a[3]) + [need for need in b[3] if need not in a[3]]
    return (a[0] + b[0], a[1] + tuple((name, start + many, *rest) for name, start, *rest in b[1]), a[2] + b[2], tuple(needs),
            a[4] + tuple((index + many, *rest) for index, *rest in b[4]), a[5] + tuple((index + many, *rest) for index, *rest in b[5]))


class ObjectTest(unittest.TestCase):
    def test_fields(self):
        words, functions, data = (115, 19), (("f", 0, 2, 8), ("k", 1, 0, 4)), (("g", 0, -5), ("t", 8, 0))
        needs, places, marks = (("q", "function", 1),), ((1, "call", "q"),), ((0, "tell", AT),)
        made = Object(words, functions, data, needs, places, marks)
        self.assertEqual((made.words, made.functions, made.data, made.needs, made.places, made.marks),
                         (words, functions, data, needs, places, marks))
        self.assertEqual(made.parts(), (words, functions, data, needs, places, marks))
        self.assertIs(type(made.parts()), tuple)
        self.assertEqual(made.size, 2)

    def test_the_empty_object(self):
        self.assertEqual(Object(*EMPTY).parts(), EMPTY)
        self.assertEqual(Object(*EMPTY).size, 0)

    def test_sizes(self):
        for seed in range(50):
            made = drawn_object(seed)
            self.assertEqual(made.size, len(made.words))
            self.assertIs(type(made.size), int)


class SumTest(unittest.TestCase):
    def check(self, a, b):
        first, second = a.parts(), b.parts()
        found = a + b
        self.assertIsInstance(found, Object)
        self.assertEqual(found.parts(), second_sum(first, second))
        for field in found.parts():
            self.assertIs(type(field), tuple)
        self.assertEqual(found.size, a.size + b.size)
        self.assertEqual((a.parts(), b.parts()), (first, second))
        self.assertIsNot(found, a)
        return found

    def test_an_example(self):
        a = Object((1, 2, 3), (("f", 0, 2, 8), ("k", 2, 0, 4)), (("g", 0, 5),), (("q", "function", 1), ("t", "array", 3)), ((1, "call", "q"),),
                   ((0, "tell", AT),))
        b = Object((4, 5), (("f", 0, 2, 8), ("z", 1, 6, 12)), (("g", 0, 5), ("t", 3, 0)), (("t", "array", 4), ("q", "function", 1), ("q", "word", 0)),
                   ((0, "high", "t"), (1, "call", "q")), ((1, "depth", AT),))
        self.assertEqual(self.check(a, b).parts(), (
            (1, 2, 3, 4, 5), (("f", 0, 2, 8), ("k", 2, 0, 4), ("f", 3, 2, 8), ("z", 4, 6, 12)), (("g", 0, 5), ("g", 0, 5), ("t", 3, 0)),
            (("q", "function", 1), ("t", "array", 3), ("t", "array", 4), ("q", "word", 0)), ((1, "call", "q"), (3, "high", "t"), (4, "call", "q")),
            ((0, "tell", AT), (4, "depth", AT))))

    def test_needs(self):
        def needing(*needs):
            return Object((), (), (), needs, (), ())

        one, other = ("a", "word", 0), ("b", "array", 2)
        self.assertEqual((needing(one) + needing(one)).needs, (one,))
        self.assertEqual((needing(one, other) + needing(other, one)).needs, (one, other))
        self.assertEqual((needing(other) + needing(one, other)).needs, (other, one))
        # Equal names, but another kind or count.
        for near in (("a", "array", 1), ("a", "function", 0), ("b", "array", 3)):
            self.assertEqual((needing(one, other) + needing(near)).needs, (one, other, near))
        # A need that is defined by now stays.
        defining = Object((), (), (("a", 0, 1),), (), (), ())
        self.assertEqual((needing(one) + defining).needs, (one,))
        self.assertEqual((defining + needing(one)).needs, (one,))

    def test_empty_objects(self):
        for seed in range(40):
            made = drawn_object(seed)
            self.assertEqual(self.check(made, Object(*EMPTY)).parts(), made.parts())
            self.assertEqual(self.check(Object(*EMPTY), made).parts(), made.parts())
        self.assertEqual(self.check(Object(*EMPTY), Object(*EMPTY)).parts(), EMPTY)

    def test_an_object_and_itself(self):
        for seed in range(20):
            made = drawn_object(seed)
            self.check(made, made)

    def test_brackets(self):
        for seed in range(150):
            a, b, c = drawn_object(seed), drawn_object(seed + 1000), drawn_object(seed + 2000)
            left, right = self.check(self.check(a, b), c), self.check(a, self.check(b, c))
            self.assertEqual(left.parts(), right.parts())


class GatheredTest(unittest.TestCase):
    def check(self, flows, data=(), needs=()):
        pieces = tuple([emitted(flow) for flow in flows])
        found = Object.gathered(pieces, data, needs)
        self.assertIsInstance(found, Object)
        self.assertEqual((found.data, found.needs), (data, needs))
        words, functions, places, marks = [], [], [], []
        for piece in pieces:
            functions.append((piece.name, len(words), piece.params, piece.frame))
            for word, (_, place, mark) in zip(piece.words, piece.lines):
                places += [(len(words), *place)] if place else []
                marks += [(len(words), *mark)] if mark else []
                words.append(word)
        self.assertEqual((found.words, found.functions, found.places, found.marks), (tuple(words), tuple(functions), tuple(places), tuple(marks)))
        self.assertEqual(Object.gathered(pieces, data, needs).parts(), found.parts())
        # It is the sum of the objects of one piece each.
        total = Object((), (), data, needs, (), ())
        for piece in pieces:
            total = total + Object.gathered((piece,), (), ())
        self.assertEqual(total.parts(), found.parts())
        return found

    def test_no_piece(self):
        self.assertEqual(self.check(()).parts(), EMPTY)
        data, needs = (("g", 0, 3), ("t", 5, 0)), (("k", "function", 2),)
        self.assertEqual(self.check((), data, needs).parts(), ((), (), data, needs, (), ()))

    def test_one_and_several_pieces(self):
        f = Flow("f", (8, 33), 40, (), ((("write", "g", 8), ("tell", 33, AT), ("call", 9, "k", (8,), AT), ("back", 9)),))
        k = Flow("k", (10,), 32, (2,), ((("inside", 10, 2, AT), ("load", 10, 0, 10), ("back", 10)),))
        empty = Flow("main", (), 32, (), ((("back", 8),),))
        for flows in ((f,), (k,), (empty,), (f, k), (k, f), (empty, f, k, empty)):
            found = self.check(flows, (("g", 0, 7),), (("q", "word", 0),))
            self.assertEqual([name for name, *_ in found.functions], [flow.name for flow in flows])
        self.assertEqual([kind for _, kind, _ in self.check((f, k)).marks], ["tell", "depth", "call", "index"])
        self.assertEqual([row[1:] for row in self.check((f, k)).places], [("high", "g"), ("low", "g"), ("call", "k")])

    def test_lowered_units(self):
        unit = read_unit("use word f(1); word g; word k(word n) { tell n; return f(n) + g; } word main() { while (g) { g = k(g); } }")
        for free in (0, 4, 20):
            self.check([renamed(flow, choose(flow, free)) for flow in lower(unit).flows], (("g", 0, 0),), (("f", "function", 1),))


if __name__ == "__main__":
    unittest.main()
