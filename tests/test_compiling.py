"""Points 73 and 75: compiling, and the certificates that the compiler makes."""

import random
import unittest

from sameruns.basics.errors import (BadFree, BadLength, BadName, BadNumber, BadPass, Missing, Stray, TooMany, Twice, Unknown, Unlike)
from sameruns.homes.choosing import choose
from sameruns.homes.fitting import fits
from sameruns.homes.renaming import renamed
from sameruns.lang.unitreading import read_unit
from sameruns.lang.units import Unit, parted
from sameruns.middle.lowering import lower
from sameruns.middle.flows import Flow
from sameruns.objects.linking import link
from sameruns.objects.objects import Object
from sameruns.papers.improving import PASSES, improved
from sameruns.papers.judge import Paper, judge
from sameruns.papers.laid import laid_at
from sameruns.papers.skips import swept
from sameruns.rows.emitting import emitted
from sameruns.whole.compiling import Certificate, certified, compiled
from tests.drawing import drawn_cut, drawn_declarations
from tests.test_whole import drawn_passes

UNIT = read_unit("""use word q[3]; use word k(2); use word z; word h; word f(word n) { return n * 2 + g; } word t[4]; word g = -5;
    word main() { word i; while (i < 4) { t[i] = f(i) + k(i, q[1]) + z; i = i + 1; } tell t[3]; } word u[9];""")


class CompiledTest(unittest.TestCase):
    def check(self, unit, *passes, free=8):
        """Compare with the deeds of point 73, one after another."""
        parts = unit.parts()
        made = compiled(unit, *passes, free=free)
        self.assertIsInstance(made, Object)
        flows = improved(lower(unit), passes).flows
        pieces = [emitted(renamed(flow, choose(flow, free))) for flow in flows]
        words = tuple([(row[1], 0, row[2]) for row in unit.declarations if row[0] == "word"])
        arrays = tuple([(row[1], row[2], 0) for row in unit.declarations if row[0] == "array"])
        needs = tuple([(use[1], use[0], (*use, 0)[2]) for use in unit.uses])
        self.assertEqual(made.parts(), Object.gathered(tuple(pieces), words + arrays, needs).parts())
        self.assertEqual(compiled(unit, *passes, free=free).parts(), made.parts())
        self.assertEqual(unit.parts(), parts)
        return made

    def test_data_and_needs(self):
        made = self.check(UNIT)
        self.assertEqual(made.data, (("h", 0, 0), ("g", 0, -5), ("t", 4, 0), ("u", 9, 0)))
        self.assertEqual(made.needs, (("q", "array", 3), ("k", "function", 2), ("z", "word", 0)))
        self.assertEqual([(name, params) for name, _, params, _ in made.functions], [("f", 1), ("main", 0)])

    def test_an_empty_unit(self):
        self.assertEqual(self.check(Unit((), ())).parts(), ((), (), (), (), (), ()))
        self.assertEqual(self.check(Unit((), ()), *PASSES, free=0).size, 0)
        self.assertEqual(self.check(read_unit("use word g; word x = 3;")).parts(), ((), (), (("x", 0, 3),), (("g", "word", 0),), (), ()))

    def test_a_unit_that_is_no_program(self):
        self.check(read_unit("use word f(1); word k() { return f(1); }"))
        with self.assertRaises(Missing):
            link(compiled(read_unit("use word f(1); word k() { return f(1); }")))

    def test_the_usual_number_of_free_registers(self):
        # A function with more words at once than there are registers.
        names = [f"w{k}" for k in range(15)]
        unit = read_unit("word main() { " + " ".join([f"word {name};" for name in names]) + " return " + " - ".join(names) + "; }")
        objects = [compiled(unit, free=free).parts() for free in range(21)]
        self.assertEqual(compiled(unit).parts(), objects[8])
        self.assertEqual(certified(unit)[0].parts(), objects[8])
        self.assertEqual(certified(unit)[1].free, 8)
        self.assertEqual(objects.count(objects[8]), 1)

    def test_drawn_units(self):
        for seed in range(60):
            chance = random.Random(seed)
            unit = Unit((), drawn_declarations(seed, 4, 60))
            for one in parted(unit, drawn_cut(seed, len(unit.declarations))):
                self.check(one, *drawn_passes(chance), free=chance.randint(0, 20))


class ErrorsTest(unittest.TestCase):
    def refuse(self, error, fields, unit, *passes, **more):
        parts = unit.parts()
        for action in (compiled, certified):
            with self.assertRaises(error) as caught:
                action(unit, *passes, **more)
            self.assertEqual(vars(caught.exception), fields)
        self.assertEqual(unit.parts(), parts)

    def test_the_errors_of_a_unit(self):
        for text, error, fields in (
            ("word f() { tell x; }", Unknown, {"name": "x"}), ("word f() { tell f; }", Unlike, {"name": "f"}), ("word g; word g;", Twice, {"name": "g"}),
            ("word t[0];", BadLength, {"name": "t"}), ("word f() { break; }", Stray, {"function": "f", "number": 0}),
        ):
            unit = read_unit(text)
            self.refuse(error, fields, unit)
            # They come before those of the passes and of the number.
            self.refuse(error, fields, unit, "nothing", free=21)
            self.refuse(error, fields, unit, *["known"] * 9, free=-1)
        self.refuse(BadName, {"name": "Word"}, Unit((), (("word", "Word", 0),)), "x")
        self.refuse(BadNumber, {"number": -2147483648}, Unit((), (("word", "g", -2147483648),)), free=99)

    def test_bad_passes(self):
        unit = read_unit("word main() { }")
        self.refuse(BadPass, {"name": "x"}, unit, "x")
        self.refuse(BadPass, {"name": "Known"}, unit, "known", "Known", "y")
        self.refuse(BadPass, {"name": ""}, unit, "", free=21)
        self.refuse(BadPass, {"name": "z"}, unit, *["dead"] * 8, "z")
        self.refuse(BadPass, {"name": "z"}, unit, *["dead"] * 20, "z", free=-1)

    def test_too_many_passes(self):
        unit = read_unit("word main() { }")
        for many in (9, 10, 40):
            self.refuse(TooMany, {"most": 8}, unit, *["laid"] * many)
            self.refuse(TooMany, {"most": 8}, unit, *["laid"] * many, free=21)
        compiled(unit, *["laid"] * 8)

    def test_bad_numbers(self):
        unit = read_unit("word main() { }")
        for free in (-1, 21, -2 ** 40, 2 ** 40):
            self.refuse(BadFree, {"free": free}, unit, free=free)
            self.refuse(BadFree, {"free": free}, unit, *PASSES, free=free)
        # Also where there is no function.
        self.refuse(BadFree, {"free": 21}, Unit((), ()), free=21)
        self.refuse(BadFree, {"free": -1}, read_unit("word g;"), "dead", free=-1)
        for free in range(21):
            compiled(unit, free=free)


class CertifiedTest(unittest.TestCase):
    def check(self, unit, *passes, free=8):
        made, certificate = certified(unit, *passes, free=free)
        self.assertIsInstance(certificate, Certificate)
        self.assertEqual(made.parts(), compiled(unit, *passes, free=free).parts())
        self.assertEqual(certificate.free, free)
        flows = lower(unit).flows
        self.assertEqual([kind for kind, _ in certificate.stages], ["laid" if name == "laid" else "judged" for name in passes])
        for kind, rows in certificate.stages:
            self.assertEqual(len(rows), len(flows))
            if kind == "laid":
                flows = tuple([laid_at(flow, flows, sites) for flow, sites in zip(flows, rows)])
            else:
                self.assertTrue(all([judge(flow, after, paper) for flow, (after, paper) in zip(flows, rows)]))
                flows = tuple([swept(after) for after, _ in rows])
        self.assertEqual([flow.parts() for flow in flows], [flow.parts() for flow in improved(lower(unit), passes).flows])
        self.assertEqual(len(certificate.homes), len(flows))
        for flow, homes in zip(flows, certificate.homes):
            self.assertTrue(fits(flow, homes, free))
        self.assertEqual(certificate.parts(), certified(unit, *passes, free=free)[1].parts())
        return certificate

    def test_certificates(self):
        for passes in ((), ("known",), ("laid",), PASSES, ("laid", "dead", "laid", "fixed", "common", "known", "known", "dead")):
            for free in (0, 8, 20):
                self.check(UNIT, *passes, free=free)
                self.check(Unit((), ()), *passes, free=free)

    def test_drawn_units(self):
        for seed in range(40):
            chance = random.Random(seed)
            self.check(Unit((), drawn_declarations(seed, 4, 60)), *drawn_passes(chance), free=chance.randint(0, 20))

    def test_parts(self):
        flow = Flow("f", (), 1, (), ((("back", 0),),))
        paper = Paper((), (((0,), ()),))
        made = Certificate(3, (("judged", ((flow, paper), None)), ("laid", ((), (0, 2)))), ((8, 9), ()))
        self.assertEqual(made.parts(), (3, (("judged", ((flow.parts(), paper.parts()), None)), ("laid", ((), (0, 2)))), ((8, 9), ())))
        self.assertEqual((made.free, made.homes), (3, ((8, 9), ())))
        self.assertIs(made.stages[0][1][0][0], flow)
        self.assertEqual(Certificate(0, (), ()).parts(), (0, (), ()))
        stages, homes = [("laid", ((),))], [()]
        made = Certificate(1, stages, homes)
        stages.append(None)
        homes.append(None)
        self.assertEqual(made.parts(), (1, (("laid", ((),)),), ((),)))


if __name__ == "__main__":
    unittest.main()
