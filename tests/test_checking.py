"""Points 16 and 17: checking a unit."""

import unittest

from sameruns.basics import errors
from sameruns.lang.checking import check_unit
from sameruns.lang.unitreading import read_unit
from sameruns.lang.units import Unit, parted
from tests.drawing import drawn_cut, drawn_declarations


def refusal(unit):
    """The error that checking raises as a tuple, or None."""
    if isinstance(unit, str):
        unit = read_unit(unit)
    before = unit.parts()
    try:
        answer = check_unit(unit)
    except errors.RunsError as error:
        return (type(error).__name__, *vars(error).values())
    assert answer is None and unit.parts() == before
    return None


def function(body, params=(), local_rows=()):
    return ("function", "f", params, local_rows, body)


class CheckUnitTest(unittest.TestCase):
    def check(self, *rows):
        for unit, wanted in rows:
            self.assertEqual(refusal(unit), wanted, unit if isinstance(unit, str) else unit.parts())

    def test_nothing_is_raised(self):
        self.check(
            ("", None), ("use word g; use word t[1]; use word f(0);", None),
            ("word f(word n) { word r[32]; r[n] = g; return f(n) + t[f(g)]; } word g = -2147483647; word t[1000];", None),
            ("word main() { while (1) { if (1) { break; } else { continue; } } }", None),
            ("word f(word f) { return f; }", None), ("word g; word f(word g) { word t; g = t; }", None))

    def test_example(self):
        self.check(("word f(word n) { } word main() { f(); }", ("Unlike", "f")))

    def test_names(self):
        for name in ("", "A", "abcdefghi", "9a", "a_b", "if", "word", "mod", "use", "a b", " a", "-"):
            wanted = ("BadName", name)
            self.check(
                (Unit((("word", name),), ()), wanted), (Unit((("array", name, 2),), ()), wanted),
                (Unit((("function", name, 2),), ()), wanted), (Unit((), (("word", name, 2),)), wanted),
                (Unit((), (("array", name, 2),)), wanted),
                (Unit((), (("function", name, (), (), ()),)), wanted),
                (Unit((), (function((), (name,)),)), wanted), (Unit((), (function((), ("a", name)),)), wanted),
                (Unit((), (function((), (), (("word", name),)),)), wanted),
                (Unit((), (function((), (), (("array", name, 3),)),)), wanted))
        for name in ("a", "abcdefgh", "a1234567", "ifx", "words", "main"):
            self.check((Unit((("word", name),), (function((), (name,)),)), None))

    def test_twice(self):
        self.check(
            ("use word g; use word g;", ("Twice", "g")), ("use word g; use word g(3);", ("Twice", "g")),
            ("use word g; word g;", ("Twice", "g")), ("word g; word g() { }", ("Twice", "g")),
            ("word g[1]; word h; word h[2]; word g;", ("Twice", "h")), ("word f(word a, word a) { }", ("Twice", "a")),
            ("word f(word a) { word b; word a[3]; }", ("Twice", "a")), ("word f() { word b; word b; }", ("Twice", "b")),
            ("word f() { word b[2]; word b; } word g(word b) { }", ("Twice", "b")),
            ("word f(word a) { } word g(word a) { word f; }", None))

    def test_lengths(self):
        for length, wanted in ((0, False), (1, True), (32, True), (33, True), (1000, True), (1001, False), (-1, False),
                               (2 ** 40, False), (-(2 ** 40), False)):
            error = None if wanted else ("BadLength", "t")
            self.check((Unit((("array", "t", length),), ()), error), (Unit((), (("array", "t", length),)), error))
            local = ("array", "t", length)
            error = None if wanted and length < 33 else ("BadLength", "t")
            self.check((Unit((), (function((), (), (local,)),)), error))

    def test_counts_of_parameters_in_uses_are_free(self):
        self.check((Unit((("function", "f", 0), ("function", "g", 2 ** 40), ("function", "h", -1)), ()), None))

    def test_initial_words(self):
        for n, wanted in ((0, True), (2147483647, True), (-2147483647, True), (2147483648, False),
                          (-2147483648, False), (2 ** 40, False), (-(2 ** 40), False)):
            self.check((Unit((), (("word", "g", n),)), None if wanted else ("BadNumber", n)))

    def test_order_of_the_declarations(self):
        bad_local = ("function", "f", ("a", "a"), (), ())
        bad_body = function((("break",),))
        self.check(
            (Unit((("array", "t", 0), ("word", "Q")), ()), ("BadLength", "t")),
            (Unit((("array", "A", 0),), ()), ("BadName", "A")),
            (Unit((("word", "t"), ("array", "t", 0)), ()), ("Twice", "t")),
            (Unit((("array", "t", 0),), (("word", "A", 0),)), ("BadLength", "t")),
            (Unit((("word", "g"),), (("word", "g", 2 ** 31),)), ("Twice", "g")),
            (Unit((), (("word", "g", 2 ** 31), ("word", "A", 0))), ("BadNumber", 2 ** 31)),
            (Unit((), (bad_local, ("word", "A", 0))), ("Twice", "a")),
            (Unit((), (("word", "A", 0), bad_local)), ("BadName", "A")),
            (Unit((("word", "f"),), (bad_local,)), ("Twice", "f")),
            (Unit((), (bad_body, ("word", "A", 0))), ("BadName", "A")),
            (Unit((), (function((), ("A",), (("array", "t", 0),)),)), ("BadName", "A")),
            (Unit((), (function((), ("a",), (("array", "t", 0), ("word", "a"))),)), ("BadLength", "t")),
            (Unit((), (function((), ("a",), (("array", "a", 0),)),)), ("Twice", "a")),
            (Unit((), (function((), (), (("array", "B", 0),)),)), ("BadName", "B")))

    def test_stray(self):
        self.check(
            ("word f() { break; }", ("Stray", "f", 0)), ("word f() { tell 1; continue; }", ("Stray", "f", 1)),
            ("word f() { while (1) { break; } break; }", ("Stray", "f", 2)),
            ("word f() { if (1) { tell 2; } else { continue; } }", ("Stray", "f", 2)),
            ("word f() { if (1) { while (1) { } break; } }", ("Stray", "f", 2)),
            ("word f() { while (1) { if (1) { break; } else { continue; } } }", None),
            ("word f() { while (1) { while (1) { break; } break; } continue; }", ("Stray", "f", 4)),
            ("word f() { while (1) { } } word h() { continue; }", ("Stray", "h", 0)))

    def test_statements_in_the_order_of_their_numbers(self):
        self.check(
            ("word f() { tell x; break; }", ("Unknown", "x")), ("word f() { break; tell x; }", ("Stray", "f", 0)),
            ("word f() { if (x) { break; } }", ("Unknown", "x")),
            ("word f() { if (1) { break; } else { tell x; } }", ("Stray", "f", 1)),
            ("word f() { if (1) { tell x; } else { tell y; } }", ("Unknown", "x")),
            ("word f() { while (1) { tell x; } tell y; }", ("Unknown", "x")),
            ("word f() { tell x; } word h() { tell y; }", ("Unknown", "x")))

    def test_unknown_at_each_place(self):
        for text in ("tell x;", "return x;", "x = 1;", "a = x;", "x[1] = 1;", "t[x] = 1;", "t[1] = x;", "x();",
                     "f(x);", "f(a + x);", "if (x) { }", "while (x) { }", "tell -x;", "tell 1 + x;", "tell x + 1;",
                     "tell x[1];", "tell t[x];", "tell x();", "tell f(x);", "tell 1 && x;", "tell t[f(-(1 || x))];",
                     "if (1) { x = 1; }", "if (1) { } else { x(); }", "while (1) { tell x; }"):
            self.check(("word t[3]; word f(word a) { " + text + " }", ("Unknown", "x")))

    def test_order_within_a_statement(self):
        for text, name in (("x = y;", "x"), ("x[y] = z;", "x"), ("t[y] = z;", "y"), ("t[1] = z + y;", "z"),
                           ("x(y, z);", "x"), ("f(y, z);", "f"), ("g(y, z);", "y"), ("tell x + y * z;", "x"),
                           ("tell t[y] + x;", "y"), ("tell x[y];", "x"), ("tell f(x, y);", "f"),
                           ("tell g(1, y) + x;", "y"), ("tell -(x) + y;", "x"), ("tell t[g(1, z)] && x;", "z")):
            error = ("Unlike" if name == "f" else "Unknown", name)
            self.check(("word t[3]; word g(word a, word b) { } word f() { " + text + " }", error))

    def test_unlike(self):
        begin = "word g; word t[3]; word p(word a) { } word f(word a) { word r[2]; word x; "
        for text, name in (
            ("tell t;", "t"), ("tell p;", "p"), ("tell r;", "r"), ("t = 1;", "t"), ("p = 1;", "p"), ("r = 1;", "r"),
            ("tell g[1];", "g"), ("tell p[1];", "p"), ("tell x[1];", "x"), ("tell a[1];", "a"), ("g[1] = 1;", "g"),
            ("a[1] = 1;", "a"), ("x[1] = 1;", "x"), ("p[0] = 1;", "p"), ("tell g();", "g"), ("tell t(1);", "t"),
            ("tell r();", "r"), ("x();", "x"), ("a(1);", "a"), ("t();", "t"), ("p();", "p"), ("p(1, 2);", "p"),
            ("tell p();", "p"), ("tell p(1, 2);", "p"), ("f();", "f"), ("tell f;", "f"),
        ):
            self.check((begin + text + " }", ("Unlike", name)))
        for text in ("tell g;", "g = a;", "tell t[x];", "t[1] = a;", "tell r[1];", "r[a] = x;", "p(1);", "tell p(2);",
                     "tell f(a);", "x = g;", "a = 1;"):
            self.check((begin + text + " }", None))

    def test_uses_are_looked_up(self):
        begin = "use word g; use word t[3]; use word p(2); word f() { "
        for text, error in (
            ("g = t[g] + p(1, 2);", None), ("t = 1;", ("Unlike", "t")), ("p = 1;", ("Unlike", "p")),
            ("g[1] = 1;", ("Unlike", "g")), ("p(1);", ("Unlike", "p")), ("tell p(1, 2, 3);", ("Unlike", "p")),
            ("t[1] = 5; p(1, 2);", None), ("g();", ("Unlike", "g")),
        ):
            self.check((begin + text + " }", error))

    def test_parameters_and_locals_come_first(self):
        self.check(
            ("word f() { } word h(word f) { f(); }", ("Unlike", "f")),
            ("word t[3]; word h() { word t; t[1] = 2; }", ("Unlike", "t")),
            ("word g; word h() { word g[2]; g = 1; }", ("Unlike", "g")),
            ("word g; word h() { word g[2]; g[1] = 1; } word k() { g = 1; }", None),
            ("word h(word k) { } word k() { tell h(k); }", ("Unlike", "k")),
            ("word h(word a) { } word k() { tell a; }", ("Unknown", "a")),
            ("word h() { word h; h = 1; } word k() { h(); }", None))

    def test_later_declarations_are_found(self):
        self.check(("word f() { g = t[h()]; } word g; word t[2]; word h() { }", None))

    def test_numbers(self):
        for n, wanted in ((0, True), (2147483647, True), (2147483648, False), (-1, False), (2 ** 40, False),
                          (-(2 ** 40), False)):
            error = None if wanted else ("BadNumber", n)
            num = ("num", n)
            places = (
                ("tell", num), ("return", num), ("set", "a", num), ("put", "t", num, ("num", 0)),
                ("put", "t", ("num", 0), num), ("do", "f", (num,)), ("if", num, (), ()), ("while", num, ()),
                ("tell", ("un", "-", num)), ("tell", ("bin", "+", num, ("num", 1))),
                ("tell", ("bin", "&&", ("num", 1), num)), ("tell", ("item", "t", num)), ("tell", ("call", "f", (num,))),
            )
            for statement in places:
                body = (("while", ("num", 1), (statement,)),)
                self.check((Unit((), (("array", "t", 2), function(body, ("a",)))), error))

    def test_names_and_numbers_in_their_order(self):
        big = ("num", 2 ** 31)
        x = ("var", "x")
        self.check(
            (Unit((), (function((("tell", ("bin", "+", big, x)),)),)), ("BadNumber", 2 ** 31)),
            (Unit((), (function((("tell", ("bin", "+", x, big)),)),)), ("Unknown", "x")),
            (Unit((), (function((("put", "x", big, big),)),)), ("Unknown", "x")),
            (Unit((), (function((("tell", ("item", "f", big)),)),)), ("Unlike", "f")))

    def test_whole_units_and_their_parts(self):
        for seed in range(150):
            unit = Unit((), drawn_declarations(seed))
            for part in [unit, *parted(unit, drawn_cut(seed, len(unit.declarations)))]:
                self.assertIsNone(refusal(part))


if __name__ == "__main__":
    unittest.main()
