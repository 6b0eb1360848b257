"""Points 9, 10, 11, 12 and 15: reading units."""

import random
import unittest

from sameruns.basics.errors import BadText
from sameruns.lang.tokens import tokens
from sameruns.lang.trees import levels, numbered
from sameruns.lang.unitreading import lines, read_unit
from sameruns.lang.units import Unit
from sameruns.lang.writing import write_unit
from tests.drawing import drawn_declarations
from tests.grammar import first_refused

GROUPS = (("*", "/", "mod"), ("+", "-"), ("<<", ">>"), ("<", "<=", ">", ">="), ("==", "!="), ("&",), ("^",),
          ("|",), ("&&",), ("||",))
A, B, C = ("var", "a"), ("var", "b"), ("var", "c")


def place(text):
    """The line and column of the error that a text raises, or None."""
    try:
        read_unit(text)
    except BadText as error:
        return (error.line, error.column)
    return None


def expression(text):
    """The tree of an expression."""
    return read_unit("word f() { tell " + text + "; }").declarations[0][4][0][1]


def body(text):
    """The tree of the statements of a function."""
    return read_unit("word f() { " + text + " }").declarations[0][4]


class TreesTest(unittest.TestCase):
    def test_example(self):
        found = read_unit("word g = -2; word main() { tell g + 1 * 2; }").declarations
        self.assertEqual(found, (("word", "g", -2), ("function", "main", (), (), (
            ("tell", ("bin", "+", ("var", "g"), ("bin", "*", ("num", 1), ("num", 2)))),))))

    def test_empty_unit(self):
        for text in ("", " ", "\n \n"):
            self.assertEqual(read_unit(text).parts(), ((), ()))
        self.assertIsInstance(read_unit(""), Unit)

    def test_uses(self):
        unit = read_unit("use word g; use word t[0]; use word f(2147483647); use word g;")
        self.assertEqual(unit.parts(), (
            (("word", "g"), ("array", "t", 0), ("function", "f", 2147483647), ("word", "g")), ()))

    def test_declarations(self):
        unit = read_unit("word a; word b=5; word c = - 7; word d[2147483647]; word e=0; word f=-0;word a(){}")
        self.assertEqual(unit.parts(), ((), (
            ("word", "a", 0), ("word", "b", 5), ("word", "c", -7), ("array", "d", 2147483647), ("word", "e", 0),
            ("word", "f", 0), ("function", "a", (), (), ()))))

    def test_initial_words_at_the_bounds(self):
        unit = read_unit("word a = 2147483647; word b = -2147483647;")
        self.assertEqual(unit.declarations, (("word", "a", 2147483647), ("word", "b", -2147483647)))

    def test_parameters_and_locals(self):
        unit = read_unit("word f(word a, word b, word a) { word x; word r[3]; word x; }")
        self.assertEqual(unit.declarations[0], (
            "function", "f", ("a", "b", "a"), (("word", "x"), ("array", "r", 3), ("word", "x")), ()))

    def test_statements(self):
        rows = (
            ("x = 1;", ("set", "x", ("num", 1))), ("t[a] = b;", ("put", "t", A, B)), ("f();", ("do", "f", ())),
            ("f(a);", ("do", "f", (A,))), ("f(a, 1, b);", ("do", "f", (A, ("num", 1), B))),
            ("tell a;", ("tell", A)), ("return a;", ("return", A)), ("break;", ("break",)),
            ("continue;", ("continue",)), ("if (a) { }", ("if", A, (), ())),
            ("if (a) { break; } else { tell b; tell c; }", ("if", A, (("break",),), (("tell", B), ("tell", C)))),
            ("if (a) { } else { }", ("if", A, (), ())), ("while (a) { }", ("while", A, ())),
            ("while (a) { if (b) { continue; } else { break; } tell c; }",
             ("while", A, (("if", B, (("continue",),), (("break",),)), ("tell", C)))),
        )
        for text, tree in rows:
            self.assertEqual(body(text), (tree,), text)
        self.assertEqual(body(" ".join([row[0] for row in rows])), tuple([row[1] for row in rows]))

    def test_operands(self):
        rows = (
            ("12", ("num", 12)), ("a", A), ("t[a]", ("item", "t", A)), ("f()", ("call", "f", ())),
            ("f(a)", ("call", "f", (A,))), ("f(a, b, c)", ("call", "f", (A, B, C))), ("(a)", A), ("((a))", A),
            ("-a", ("un", "-", A)), ("~a", ("un", "~", A)), ("!a", ("un", "!", A)),
            ("-~!a", ("un", "-", ("un", "~", ("un", "!", A)))), ("-1", ("un", "-", ("num", 1))),
            ("-t[b]", ("un", "-", ("item", "t", B))), ("t[f(a)]", ("item", "t", ("call", "f", (A,)))),
            ("-(a + b)", ("un", "-", ("bin", "+", A, B))), ("-a + b", ("bin", "+", ("un", "-", A), B)),
            ("a - -b", ("bin", "-", A, ("un", "-", B))), ("!a == b", ("bin", "==", ("un", "!", A), B)),
        )
        for text, tree in rows:
            self.assertEqual(expression(text), tree, text)

    def test_groups_and_directions(self):
        for strong, tight in enumerate(GROUPS):
            for one in tight:
                for other in tight:
                    self.assertEqual(expression(f"a {one} b {other} c"), ("bin", other, ("bin", one, A, B), C))
                    self.assertEqual(expression(f"a {one} (b {other} c)"), ("bin", one, A, ("bin", other, B, C)))
                for loose in GROUPS[strong + 1:]:
                    for other in loose:
                        self.assertEqual(expression(f"a {one} b {other} c"), ("bin", other, ("bin", one, A, B), C))
                        self.assertEqual(expression(f"a {other} b {one} c"), ("bin", other, A, ("bin", one, B, C)))
                        self.assertEqual(expression(f"(a {other} b) {one} c"), ("bin", one, ("bin", other, A, B), C))

    def test_all_groups_at_once(self):
        signs = [group[0] for group in GROUPS]
        tree = A
        for sign in signs:
            tree = ("bin", sign, tree, A)
        self.assertEqual(expression("a" + "".join([" " + sign + " a" for sign in signs])), tree)
        tree = A
        for sign in signs:
            tree = ("bin", sign, A, tree)
        self.assertEqual(expression("".join(["a " + sign + " " for sign in signs[::-1]]) + "a"), tree)

    def test_spaces_between_tokens_only(self):
        self.assertEqual(expression("a\n<<\n b"), ("bin", "<<", A, B))
        self.assertEqual(expression("a+b"), ("bin", "+", A, B))
        self.assertIsNotNone(place("word f() { tell a < < b; }"))

    def test_forty_brackets(self):
        text = "word f() { tell " + "(" * 39 + "a" + ")" * 39 + "; }"
        self.assertEqual(read_unit(text).declarations[0][4], (("tell", A),))
        mixed = "t[f((" * 12 + "-" * 24 + "a" + "))]" * 12
        self.assertEqual(levels(expression(mixed)), 12 * 2 + 24 + 1)
        self.assertIsNone(place("word f() { " + "if (a) { " * 38 + "} " * 39))
        self.assertIsNone(place("word f() { " + "while (a) { if (f(t[(1)])) { } else { " * 18 + "} " * 37))

    def test_signs_in_front_of_brackets(self):
        text = ("-~!" * 8 + "(") * 39 + "a" + ")" * 39
        found = expression(text)
        self.assertEqual(levels(found), 24 * 39 + 1)
        refused = "word f() { tell " + ("-~!" * 8 + "(") * 39
        self.assertEqual(place(refused), (1, len(refused) + 1))

    def test_tight_operators_in_brackets(self):
        part = "1 || 1 && 1 | 1 ^ 1 & 1 == 1 < 1 << 1 + 1 * ("
        text = "word f() { tell " + part * 38
        self.assertEqual(place(text), (1, len(text) + 1))

    def test_long_rows_of_operators(self):
        found = expression(" + ".join(["1"] * 4000))
        self.assertEqual(levels(found), 4000)

    def test_equal_calls_give_equal_answers(self):
        text = "word f() { tell 1; }"
        self.assertEqual(read_unit(text).parts(), read_unit(text).parts())


class BadTextTest(unittest.TestCase):
    def test_example(self):
        self.assertEqual(place("word main() {\n  tell 1 +;\n}"), (2, 11))

    def test_each_place_of_the_grammar(self):
        # The bar marks the token that is named.
        rows = (
            "|x", "|;", "|5", "|#", "|mod", "use |g;", "use word |5;", "use word |use;", "use word g |= 1;",
            "use word g[|];", "use word g[|a];", "use word g[1|;", "use word g[1]|[", "use word g(|);",
            "use word g(|word a);", "use word g(1|,", "use word g(1) |{", "use word g|,", "use word g; |;",
            "word g; |use word h;", "word f() { } |use word h;", "word |word;", "word |mod;", "word g |h;",
            "word g|, h;", "word g = |;", "word g = |a;", "word g = -|-1;", "word g = |+1;",
            "word g = 1 |+ 1;", "word g[|-1];", "word g[1|+1];", "word g[|];", "word g[2] |= 1;", "word g(|(",
            "word f(|a) { }", "word f(word |) { }", "word f(word a|;", "word f(word a,|) { }", "word f(|,",
            "word f(word a |word b) { }", "word f() |; ", "word f() { word |; }", "word f() { word x |= 1; }",
            "word f() { word x[|x]; }", "word f() { word x |(", "word f() { x = 1; |word y; }", "word f() { |; }",
            "word f() { |5; }", "word f() { |(a); }", "word f() { |-a; }", "word f() { |use word a; }",
            "word f() { x |; }", "word f() { x |+ 1; }", "word f() { x |== 1; }", "word f() { x = |; }",
            "word f() { x = 1 |}", "word f() { x = 1 |2; }", "word f() { x[|] = 1; }", "word f() { x[1 |= 1; }",
            "word f() { x[1]|; }", "word f() { x[1] |== 1; }", "word f() { x[1] = |; }", "word f() { x[1]|[1] = 2; }",
            "word f() { f(|,); }", "word f() { f(1,|); }", "word f() { f(1 |2); }", "word f() { f() |+ 1; }",
            "word f() { f()|(); }", "word f() { f() |= 1; }", "word f() { f(1|; }", "word f() { tell |; }",
            "word f() { tell |tell; }", "word f() { tell 1|, 2; }", "word f() { return |; }",
            "word f() { return |}", "word f() { if |a { } }", "word f() { if (|) { } }", "word f() { if (a|; }",
            "word f() { if (a) |tell 1; }", "word f() { if (a) { } else |if (b) { } }", "word f() { |else { } }",
            "word f() { if (a) { } else { } |else { } }", "word f() { while |1 { } }", "word f() { while (|) { } }",
            "word f() { while (1) |; }", "word f() { while (1) { } |else { } }", "word f() { break |1; }",
            "word f() { break|}", "word f() { continue|}", "word f() { continue |(", "word f() { |{ } }",
            "word f() { } |}", "word f() { }|;", "word f() { if (a) { |word x; } }", "word f() { tell (|); }",
            "word f() { tell (1|; }", "word f() { tell (1|]; }", "word f() { tell t[1|); }", "word f() { tell t[|]; }",
            "word f() { tell f(|,1); }", "word f() { tell 1 |(2); }", "word f() { tell 1|[2]; }",
            "word f() { tell a |b; }", "word f() { tell a + |* b; }", "word f() { tell |+ b; }",
            "word f() { tell a |! b; }", "word f() { tell a |~ b; }", "word f() { tell a &&|&& b; }",
            "word f() { tell a |= b; }", "word f() { tell t[1]|[2]; }", "word f() { tell f()|(); }",
            "word f() { tell (a)|(b); }", "word f() { tell (f)|[1]; }", "word f() { tell - |; }", "word f() { tell !|; }",
            "word |007;", "word g = |007;", "word g = |2147483648;", "word |abcdefghi;", "word |Abc;", "word g|#;",
            "word f() { tell |abcdefghi; }", "word f() { tell |007; }", "word f() { |A = 1; }", "word f() { tell 1|.5; }",
            "word f() { tell 1 |a_b; }", "word f() { tell a|_b; }", "|Word g;", "word f() { |\"", "word f(word |mod) { }",
        )
        for row in rows:
            at = row.index("|")
            self.assertEqual(row.count("|"), 1, row)
            self.assertEqual(place(row[:at] + row[at + 1:]), (1, at + 1), row)

    def test_each_beginning_of_a_unit(self):
        text = ("use word g; use word t[4]; use word f(2); word h; word i = -5; word j[3]; word k(word a, word b) { "
                "word x; word y[2]; x = (a + 1) * -t[b]; y[0] = f(a, b); f(1, 2); tell !x; if (x) { break; } else { "
                "continue; } while (a && b) { return a mod ~b; } k(g, 1); }")
        ends = [column - 1 + len(piece) for _, piece, _, column in tokens(text)]
        whole = {0}
        for at in range(len(tokens(text)) - 1):
            start = text[:ends[at]]
            found = place(start)
            self.assertIn(found, (None, (1, len(start) + 1)), start)
            self.assertIn(place(start + " \n "), (None, (2, 2)), start)
            if found is None:
                whole.add(ends[at])
        self.assertEqual(sorted(whole), [0, *[at + 1 for at in range(len(text)) if text[at] == ";"][:6], len(text)])

    def test_lines_and_columns(self):
        self.assertEqual(place("word g;\n\n  word\n7;"), (4, 1))
        self.assertEqual(place("word"), (1, 5))
        self.assertEqual(place("word\n"), (2, 1))
        self.assertEqual(place("word\n "), (2, 2))
        self.assertEqual(place("\n\nword g = \n\n   #"), (5, 4))

    def test_only_tokens_and_grammar_count(self):
        for text in ("use word g; word g; word g[0]; word f(word f, word f) { word f; word f[9999]; break; x = 1; }",
                     "word f() { tell f; f[1] = f(1, 2); } word f;", "use word f(100); word main(word a) { }"):
            self.assertIsNone(place(text), text)

    def test_drawn_texts_against_the_grammar(self):
        chance = random.Random(5)
        extra = ["use", "word", "if", "else", "while", "break", "continue", "tell", "return", "mod", "x", "f", "7",
                 "0", "007", "#", *"(){}[];,=+-*~!<", "&&", "=="]
        refused = 0
        for seed in range(260):
            pieces = [row[1] for row in tokens("use word q; use word p[3]; " + write_unit(
                Unit((), drawn_declarations(seed, 1, 12))))[:-1]]
            for _ in range(chance.randint(0, 2)):
                at = chance.randrange(len(pieces))
                action = chance.randint(0, 3)
                if action == 0:
                    del pieces[at]
                elif action == 1:
                    pieces.insert(at, chance.choice(extra))
                elif action == 2:
                    pieces[at] = chance.choice(extra)
                else:
                    del pieces[at:]
            text = ""
            for piece in pieces:
                text += chance.choice((" ", "\n", "  ")) + piece
            rows = tokens(text)
            names = [{"name": "NAME", "number": "NUMBER", "bad": "BAD"}.get(row[0], row[1]) for row in rows[:-1]]
            index = first_refused(names)
            refused += index is not None
            self.assertEqual(place(text), None if index is None else rows[index][2:], text)
        self.assertGreater(refused, 100)


class LinesTest(unittest.TestCase):
    def test_statements_on_one_line_and_on_several(self):
        text = ("word g;\nword f(word n) { word x;\n x = 1; x = 2;\n\n while (n\n < 3) { if (x)\n{ break;"
                " } else\n{\ncontinue;\n} tell\n\n1; } }\nword main() { tell 1\n;\n f(\n2); }")
        self.assertEqual(lines(text), [
            ("f", 0, 3), ("f", 1, 3), ("f", 2, 5), ("f", 3, 6), ("f", 4, 7), ("f", 5, 9), ("f", 6, 10),
            ("main", 0, 13), ("main", 1, 15)])

    def test_without_statements(self):
        self.assertEqual(lines(""), [])
        self.assertEqual(lines("use word g;\nword h;\nword f() { word x; }"), [])

    def test_result_is_new(self):
        text = "word f() { tell 1; }"
        lines(text).clear()
        self.assertEqual(lines(text), [("f", 0, 1)])

    def test_functions_with_equal_names(self):
        self.assertEqual(lines("word f() { tell 1;\ntell 2; }\nword f() { tell 3; }"),
                         [("f", 0, 1), ("f", 1, 2), ("f", 0, 3)])

    def test_of_drawn_written_units(self):
        for seed in range(60):
            unit = Unit((), drawn_declarations(seed))
            text = write_unit(unit)
            wanted = []
            for row in unit.declarations:
                if row[0] == "function":
                    wanted += [(row[1], number) for number, _ in numbered(row[4])]
            found = lines(text)
            self.assertEqual([row[:2] for row in found], wanted)
            # In a written text every statement has a line of its own, in the order of the numbers.
            self.assertEqual(found, sorted(set(found), key=lambda row: row[2]))
            rows = text.split("\n")
            for _, _, line in found:
                self.assertRegex(rows[line - 1], "^ +[a-z]")


if __name__ == "__main__":
    unittest.main()
