"""Point 9: tokens; positions as in point 11."""

import random
import unittest

from sameruns.lang.tokens import tokens

RESERVED = ("break", "continue", "else", "if", "mod", "return", "tell", "use", "while", "word")
SINGLE = "(){}[];,=+-*/&|^~!<>"
DOUBLE = ("<<", ">>", "<=", ">=", "==", "!=", "&&", "||")


def pairs(text):
    """The kinds and texts of the tokens, without the end."""
    return [row[:2] for row in tokens(text)[:-1]]


class TokensTest(unittest.TestCase):
    def test_empty_text(self):
        self.assertEqual(tokens(""), [("end", "", 1, 1)])

    def test_only_spaces_and_line_feeds(self):
        self.assertEqual(tokens("   "), [("end", "", 1, 4)])
        self.assertEqual(tokens("\n"), [("end", "", 2, 1)])
        self.assertEqual(tokens(" \n\n  "), [("end", "", 3, 3)])

    def test_positions(self):
        found = tokens("word g;\n  tell 12 ;\n\nx")
        self.assertEqual(found, [
            ("reserved", "word", 1, 1), ("name", "g", 1, 6), ("sign", ";", 1, 7), ("reserved", "tell", 2, 3),
            ("number", "12", 2, 8), ("sign", ";", 2, 11), ("name", "x", 4, 1), ("end", "", 4, 2)])
        self.assertIs(type(found), list)
        self.assertTrue(all(type(row) is tuple and len(row) == 4 for row in found))

    def test_reserved_words(self):
        for word in RESERVED:
            self.assertEqual(pairs(word), [("reserved", word)])
            self.assertEqual(pairs(word + "s"), [("name" if len(word) < 8 else "bad", word + "s")])
            self.assertEqual(pairs(word.upper()), [("bad", word.upper())])

    def test_names(self):
        for name in ("a", "z9", "abcdefgh", "a1234567", "main", "x0", "m0d", "ifx"):
            self.assertEqual(pairs(name), [("name", name)])
        for name in ("abcdefghi", "a12345678", "9a", "0x", "Main", "mAin", "A", "aB", "12a", "007a"):
            self.assertEqual(pairs(name), [("bad", name)])

    def test_numbers(self):
        for number in ("0", "1", "10", "9", "2147483647", "2147483646", "1000000000", "999999999"):
            self.assertEqual(pairs(number), [("number", number)])
        for number in ("00", "01", "007", "2147483648", "9999999999", "10000000000", "0000000000", "21474836470"):
            self.assertEqual(pairs(number), [("bad", number)])

    def test_long_runs(self):
        for run in ("a" * 5000, "9" * 5000, "1" + "0" * 9000, "A9" * 4000, "0" * 20000):
            self.assertEqual(pairs(run), [("bad", run)])

    def test_the_longest_run_is_taken(self):
        self.assertEqual(pairs("a1b+2"), [("name", "a1b"), ("sign", "+"), ("number", "2")])
        self.assertEqual(pairs("wordx word x"), [("name", "wordx"), ("reserved", "word"), ("name", "x")])
        self.assertEqual(pairs("if(x)"), [("reserved", "if"), ("sign", "("), ("name", "x"), ("sign", ")")])

    def test_signs(self):
        for sign in (*SINGLE, *DOUBLE):
            self.assertEqual(pairs(sign), [("sign", sign)])
            self.assertEqual(pairs("a" + sign + "b"), [("name", "a"), ("sign", sign), ("name", "b")])

    def test_double_signs_beside_the_same_characters_apart(self):
        for sign in DOUBLE:
            self.assertEqual(pairs(sign[0] + " " + sign[1]), [("sign", sign[0]), ("sign", sign[1])])
            self.assertEqual(pairs(sign[0] + "\n" + sign[1]), [("sign", sign[0]), ("sign", sign[1])])

    def test_signs_in_a_row(self):
        for text, wanted in (
            ("<<=", ["<<", "="]), ("===", ["==", "="]), ("====", ["==", "=="]), ("!==", ["!=", "="]),
            ("=!=", ["=", "!="]), ("=<", ["=", "<"]), ("=>", ["=", ">"]), ("<>", ["<", ">"]), ("<=>", ["<=", ">"]),
            ("><", [">", "<"]), (">>>", [">>", ">"]), (">>=", [">>", "="]), (">=>", [">=", ">"]), ("&&&", ["&&", "&"]),
            ("|||", ["||", "|"]), ("&|", ["&", "|"]), ("--", ["-", "-"]), ("++", ["+", "+"]), ("!!", ["!", "!"]),
            ("+=", ["+", "="]), ("-=", ["-", "="]), ("^=", ["^", "="]), ("<<<<", ["<<", "<<"]),
        ):
            self.assertEqual(pairs(text), [("sign", sign) for sign in wanted], text)

    def test_characters_that_no_token_has(self):
        for mark in "\"#$'.:?@\\_`":
            self.assertEqual(pairs(mark), [("bad", mark)])
            self.assertEqual(pairs("a" + mark + mark + "1"),
                             [("name", "a"), ("bad", mark), ("bad", mark), ("number", "1")])

    def test_place_of_bad_tokens(self):
        self.assertEqual(tokens(" \n  Abc#"), [("bad", "Abc", 2, 3), ("bad", "#", 2, 6), ("end", "", 2, 7)])

    def test_every_call_gives_a_new_list(self):
        found = tokens("a b")
        found.clear()
        self.assertEqual(len(tokens("a b")), 3)

    def test_drawn_texts_keep_all_characters(self):
        chance = random.Random(3)
        marks = " \n" + SINGLE + "ab0129Z_#<=>!&|"
        for _ in range(500):
            text = "".join([chance.choice(marks) for _ in range(chance.randint(0, 40))])
            rows = tokens(text)
            self.assertEqual("".join([row[1] for row in rows]), text.replace(" ", "").replace("\n", ""))
            starts = [0] + [at + 1 for at, mark in enumerate(text) if mark == "\n"]
            for _, piece, line, column in rows:
                at = starts[line - 1] + column - 1
                self.assertEqual(text[at:at + len(piece)], piece)
            self.assertEqual(starts[rows[-1][2] - 1] + rows[-1][3] - 1, len(text))


if __name__ == "__main__":
    unittest.main()
