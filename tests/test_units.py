"""Points 12, 16 and 19: units, their parts and their whole."""

import unittest

from sameruns.lang.programs import check_program
from sameruns.lang.tokens import tokens
from sameruns.lang.unitreading import read_unit
from sameruns.lang.units import Unit, parted, whole
from tests.drawing import drawn_cut, drawn_declarations

MANY = """
word g = 4; word t[5]; word h;
word f(word a, word b) { word x; x = g + a; t[x] = h; return p(x); }
word p(word a) { word h[2]; h[0] = a; return h[0]; }
word main() { f(1, 2); tell p(t[0]); }
"""


def shown(units):
    return [unit.parts() for unit in units]


class UnitTest(unittest.TestCase):
    def test_fields_and_parts(self):
        unit = Unit((("word", "g"),), (("word", "h", 3),))
        self.assertEqual(unit.uses, (("word", "g"),))
        self.assertEqual(unit.declarations, (("word", "h", 3),))
        self.assertEqual(unit.parts(), ((("word", "g"),), (("word", "h", 3),)))
        self.assertIs(type(unit.parts()), tuple)


class PartedTest(unittest.TestCase):
    def test_example(self):
        parts = parted(read_unit("word g; word f(word n) { g = n; } word main() { f(1); }"), (0, 1, 0))
        self.assertEqual([parts[0].uses, parts[1].uses], [(("function", "f", 1),), (("word", "g"),)])

    def test_empty_cut(self):
        found = parted(Unit((), ()), ())
        self.assertIs(type(found), list)
        self.assertEqual(shown(found), [((), ())])

    def test_one_part(self):
        unit = read_unit(MANY)
        self.assertEqual(shown(parted(unit, (0,) * 6)), [unit.parts()])

    def test_order_kind_length_and_count_of_the_uses(self):
        unit = read_unit(MANY)
        rows = unit.declarations
        g, t, h, f, p = ("word", "g"), ("array", "t", 5), ("word", "h"), ("function", "f", 2), ("function", "p", 1)
        found = parted(unit, (2, 2, 2, 0, 2, 1))
        self.assertEqual(shown(found), [
            ((g, t, h, p), (rows[3],)),
            ((t, f, p), (rows[5],)),
            ((), (rows[0], rows[1], rows[2], rows[4])),
        ])

    def test_numbers_that_no_declaration_has(self):
        unit = read_unit("word g; word main() { tell g; }")
        found = parted(unit, (3, 11))
        self.assertEqual(len(found), 12)
        for number, part in enumerate(found):
            if number == 3:
                self.assertEqual(part.parts(), ((), unit.declarations[:1]))
            elif number == 11:
                self.assertEqual(part.parts(), ((("word", "g"),), unit.declarations[1:]))
            else:
                self.assertEqual(part.parts(), ((), ()))

    def test_every_place_of_a_name_counts(self):
        for body in ("g = 1;", "tell g;", "t[1] = 2;", "tell t[1];", "f();", "tell f();", "x = -g;",
                     "x = 1 && g;", "t[g] = 0;", "t[1] = g;", "if (g) { }", "if (1) { g = 1; }",
                     "if (1) { } else { g = 1; }", "while (f()) { }", "while (1) { tell t[g]; }", "p(1, g);",
                     "x = p(1, t[2]);", "return g;"):
            text = "word g; word t[3]; word f() { } word p(word a, word b) { } word q() { word x; " + body + " }"
            used = [use[1] for use in parted(read_unit(text), (0, 0, 0, 0, 1))[1].uses]
            texts = [row[1] for row in tokens(body)]
            wanted = [name for name in ("g", "t", "f", "p") if name in texts]
            self.assertEqual(used, wanted, body)

    def test_parameters_and_locals_are_no_uses(self):
        text = "word g; word t[3]; word f(word n) { } word main() { } word q(word g) { word t; word f[2]; "
        unit = read_unit(text + "g = t; f[0] = 1; main(); }")
        self.assertEqual(parted(unit, (0, 0, 0, 0, 1))[1].uses, (("function", "main", 0),))

    def test_a_local_hides_in_its_own_function_only(self):
        unit = read_unit("word g; word f(word g) { tell g; } word q() { tell g; }")
        self.assertEqual(parted(unit, (0, 1, 0))[1].uses, ())
        self.assertEqual(parted(unit, (0, 0, 1))[1].uses, (("word", "g"),))
        self.assertEqual(parted(unit, (0, 1, 1))[1].uses, (("word", "g"),))

    def test_a_local_hides_whatever_it_is_taken_for(self):
        unit = read_unit("word g() { } word q() { word g; g(); g[0] = 1; }")
        self.assertEqual(parted(unit, (0, 1))[1].uses, ())

    def test_names_that_are_declared_nowhere(self):
        unit = read_unit("word f() { a = b[c] + d(e); } word g;")
        self.assertEqual(shown(parted(unit, (1, 0))),
                         [((), (("word", "g", 0),)), ((), (unit.declarations[0],))])

    def test_names_that_are_declared_twice(self):
        unit = read_unit("word h; word g; word g[4]; word h(word n) { } word f() { g = h; }")
        rows = unit.declarations
        found = parted(unit, (0, 0, 1, 1, 2))
        self.assertEqual(found[2].uses, (("word", "h"), ("word", "g")))
        self.assertEqual([found[0].declarations, found[1].declarations], [rows[:2], rows[2:4]])
        self.assertEqual(parted(unit, (0, 0, 1, 0, 1))[1].uses, (("word", "h"),))

    def test_no_function_uses_itself(self):
        unit = read_unit("word f() { f(); } word g() { f(); g(); }")
        self.assertEqual([part.uses for part in parted(unit, (0, 1))], [(), (("function", "f", 0),)])

    def test_unit_is_as_before_and_the_list_is_new(self):
        unit = read_unit(MANY)
        before = unit.parts()
        parted(unit, (0, 1, 2, 3, 4, 5)).clear()
        self.assertEqual(unit.parts(), before)
        self.assertEqual(len(parted(unit, (0, 1, 2, 3, 4, 5))), 6)

    def test_drawn_programs(self):
        for seed in range(150):
            unit = Unit((), drawn_declarations(seed))
            cut = drawn_cut(seed, len(unit.declarations))
            parts = parted(unit, cut)
            self.assertEqual(len(parts), max(cut, default=0) + 1)
            check_program(parts)
            self.assertEqual(sorted(whole(parts).declarations, key=repr), sorted(unit.declarations, key=repr))
            for part in parts:
                for at in range(len(part.uses)):
                    short = Unit(part.uses[:at] + part.uses[at + 1:], part.declarations)
                    others = [other for other in parts if other is not part]
                    with self.assertRaises(ValueError):
                        check_program([short, *others])


class WholeTest(unittest.TestCase):
    def test_of_none_one_and_several(self):
        self.assertEqual(whole([]).parts(), ((), ()))
        one = read_unit("use word f(2); word g; word t[3];")
        two = read_unit("use word g; word f(word a, word b) { tell g; } word g;")
        self.assertEqual(whole([one]).parts(), ((), one.declarations))
        units = [one, two, Unit((), ()), one]
        self.assertEqual(whole(units).parts(), ((), one.declarations + two.declarations + one.declarations))
        self.assertEqual(len(units), 4)
        self.assertIsInstance(whole([]), Unit)


if __name__ == "__main__":
    unittest.main()
