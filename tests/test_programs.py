"""Points 18 and 19: checking a program, also in parts."""

import unittest

from sameruns.basics import errors
from sameruns.lang.programs import check_program
from sameruns.lang.unitreading import read_unit
from sameruns.lang.units import Unit, parted
from tests.drawing import drawn_cut, drawn_declarations

MAIN = "word main() { }"


def refusal(*units):
    """The error that checking raises as a tuple, or None."""
    units = [read_unit(unit) if isinstance(unit, str) else unit for unit in units]
    before = list(units)
    try:
        answer = check_program(units)
    except errors.RunsError as error:
        return (type(error).__name__, *vars(error).values())
    assert answer is None and units == before
    return None


class CheckProgramTest(unittest.TestCase):
    def test_accepted(self):
        self.assertIsNone(refusal(MAIN))
        self.assertIsNone(refusal("", MAIN, ""))
        self.assertIsNone(refusal("use word main(0); use word g; use word t[4]; use word f(2); word h() { f(g, t[1]); }",
                                  "word g = 7; word t[4]; word f(word a, word b) { }", MAIN))

    def test_no_units(self):
        self.assertEqual(refusal(), ("NoMain",))

    def test_no_main(self):
        self.assertEqual(refusal("word f() { }"), ("NoMain",))
        self.assertEqual(refusal("word main;"), ("NoMain",))
        self.assertEqual(refusal("word main[3];", "word f() { }"), ("NoMain",))
        self.assertEqual(refusal("use word main(0);"), ("Missing", "main"))

    def test_main_with_parameters(self):
        self.assertEqual(refusal("word main(word a) { }"), ("Unlike", "main"))
        self.assertEqual(refusal("", "word main(word a, word b) { }"), ("Unlike", "main"))

    def test_units_first(self):
        self.assertEqual(refusal("word g;", "word g; word f() { break; }"), ("Stray", "f", 0))
        self.assertEqual(refusal("word f() { tell x; }", "word a; word a;"), ("Unknown", "x"))
        self.assertEqual(refusal("use word q;", Unit((), (("word", "Q", 0),))), ("BadName", "Q"))

    def test_twice(self):
        self.assertEqual(refusal("word g;", "word g;"), ("Twice", "g"))
        self.assertEqual(refusal("word g; word h;", "word h() { } word g[3];"), ("Twice", "h"))
        self.assertEqual(refusal(MAIN, "", MAIN), ("Twice", "main"))
        self.assertEqual(refusal("use word zz;", "word g;", "word g;"), ("Twice", "g"))
        self.assertEqual(refusal("word a;", "word b;", "word b; word a;"), ("Twice", "b"))

    def test_missing(self):
        self.assertEqual(refusal("use word g;", MAIN), ("Missing", "g"))
        self.assertEqual(refusal("use word t[3]; use word g;", "use word f(1); word g;"), ("Missing", "t"))
        self.assertEqual(refusal("use word g;", "use word g; " + MAIN), ("Missing", "g"))
        self.assertEqual(refusal("use word g;"), ("Missing", "g"))

    def test_unlike(self):
        for use, declaration in (
            ("use word g;", "word g[3];"), ("use word g;", "word g() { }"), ("use word g[3];", "word g;"),
            ("use word g[3];", "word g[4];"), ("use word g[3];", "word g(word a, word b, word c) { }"),
            ("use word g(1);", "word g;"), ("use word g(1);", "word g[1];"), ("use word g(1);", "word g() { }"),
            ("use word g(0);", "word g(word a) { }"),
        ):
            self.assertEqual(refusal(use, declaration), ("Unlike", "g"), use)
            self.assertEqual(refusal(declaration, MAIN, use), ("Unlike", "g"), use)
        for use, declaration in (("use word g;", "word g = 4;"), ("use word g[3];", "word g[3];"),
                                 ("use word g(1);", "word g(word b) { word c; }")):
            self.assertIsNone(refusal(use, declaration, MAIN))

    def test_uses_in_their_order(self):
        self.assertEqual(refusal("use word g; use word h;", "word g[2];"), ("Unlike", "g"))
        self.assertEqual(refusal("use word h; use word g;", "word g[2];"), ("Missing", "h"))
        self.assertEqual(refusal("use word g;", "use word h; word g[2];"), ("Unlike", "g"))
        self.assertEqual(refusal("use word h; word main(word a) { }"), ("Missing", "h"))

    def test_parts_are_accepted_exactly_if_the_unit_is(self):
        texts = (
            "", "word main() { }", "word main;", "word main(word a) { }", "word f() { main(); } word main() { g = 1; }",
            "word g; word g; word main() { }", "word g; word main() { g(); }", "word f(word n) { } word main() { f(); }",
            "word main() { break; }", "word t[3]; word main() { t[0] = main; }", "word t[0]; word main() { }",
            "word f(word a, word a) { } word main() { }", "word t[3]; word f(word t) { t = 1; } word main() { t[0] = 1; }",
            "word g; word t[2]; word f() { return g; } word main() { tell f() + t[g]; }",
        )
        for text in texts:
            unit = read_unit(text)
            accepted = refusal(unit) is None
            for seed in range(30):
                parts = parted(unit, drawn_cut(seed, len(unit.declarations)))
                self.assertEqual(refusal(*parts) is None, accepted, text)

    def test_drawn_programs(self):
        for seed in range(150):
            unit = Unit((), drawn_declarations(seed))
            self.assertIsNone(refusal(unit))
            self.assertIsNone(refusal(*parted(unit, drawn_cut(seed, len(unit.declarations)))))


if __name__ == "__main__":
    unittest.main()
