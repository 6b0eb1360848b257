"""Points 3, 4 and 5: words and operations."""

import random
import unittest

from sameruns.basics.operations import OPERATIONS, result
from sameruns.basics.words import GREATEST, LEAST, high, low, unsigned, wrap
from tests.oracle import operation

EDGES = (
    0, 1, -1, 2, -2, 3, 7, -7, 31, 32, 33, -31, -32, -33, 2047, 2048, -2048, -2049, 4096, 65535, 65536,
    GREATEST, GREATEST - 1, LEAST, LEAST + 1, 1 << 30, -(1 << 30),
)


class WordsTest(unittest.TestCase):
    def test_bounds(self):
        self.assertEqual((LEAST, GREATEST), (-(2 ** 31), 2 ** 31 - 1))

    def test_wrap_beside_the_bounds(self):
        wanted = {
            0: 0, 1: 1, -1: -1,
            2 ** 31 - 1: GREATEST, 2 ** 31: LEAST, 2 ** 31 + 1: LEAST + 1,
            -(2 ** 31) + 1: LEAST + 1, -(2 ** 31): LEAST, -(2 ** 31) - 1: GREATEST,
            2 ** 32 - 1: -1, 2 ** 32: 0, 2 ** 32 + 1: 1,
            -(2 ** 32) + 1: 1, -(2 ** 32): 0, -(2 ** 32) - 1: -1,
            3 * 2 ** 31 - 1: GREATEST, 3 * 2 ** 31: LEAST, 3 * 2 ** 31 + 1: LEAST + 1,
            -3 * 2 ** 31 + 1: LEAST + 1, -3 * 2 ** 31: LEAST, -3 * 2 ** 31 - 1: GREATEST,
            2 ** 80: 0, 2 ** 80 - 1: -1, -(2 ** 80): 0, -(2 ** 80) + 1: 1, 2 ** 80 - 2 ** 31: LEAST,
            -(2 ** 80) + 2 ** 31 - 1: GREATEST,
        }
        for n, word in wanted.items():
            self.assertEqual(wrap(n), word, n)

    def test_wrap_is_the_word_of_drawn_integers(self):
        chance = random.Random(1)
        for _ in range(2000):
            n = chance.randint(-(2 ** 80), 2 ** 80)
            self.assertTrue(LEAST <= wrap(n) <= GREATEST)
            self.assertEqual((wrap(n) - n) % 2 ** 32, 0)

    def test_unsigned(self):
        for word in EDGES:
            self.assertEqual(unsigned(word), word if word >= 0 else word + 2 ** 32)

    def test_parts_at_the_multiples(self):
        words = list(EDGES)
        for base in (0, LEAST + 8192, GREATEST - 8192, 1 << 20, -(1 << 20), 2048 * 5, -2048 * 7, LEAST + 4096):
            start = base // 2048 * 2048
            words += [start + step * 2048 + by for step in range(-1, 4) for by in (-1, 0, 1)]
        words = [word for word in words if LEAST <= word <= GREATEST]
        for word in [*words, LEAST, GREATEST]:
            self.assertTrue(-2048 <= low(word) <= 2047, word)
            self.assertEqual((word - low(word)) % 4096, 0, word)
            self.assertTrue(0 <= high(word) <= 1048575, word)
            self.assertEqual((high(word) * 4096 + low(word) - word) % 2 ** 32, 0, word)

    def test_parts_by_hand(self):
        self.assertEqual([low(2047), high(2047)], [2047, 0])
        self.assertEqual([low(2048), high(2048)], [-2048, 1])
        self.assertEqual([low(-2048), high(-2048)], [-2048, 0])
        self.assertEqual([low(-2049), high(-2049)], [2047, 1048575])
        self.assertEqual([low(LEAST), high(LEAST)], [0, 524288])
        self.assertEqual([low(GREATEST), high(GREATEST)], [-1, 524288])
        self.assertEqual([low(-1), high(-1)], [-1, 0])


class OperationsTest(unittest.TestCase):
    def test_names(self):
        self.assertEqual(OPERATIONS, (
            "add", "sub", "mul", "and", "or", "xor", "shl", "sar", "lt", "le", "eq", "ne", "quo", "mod"))

    def test_example(self):
        found = [result("quo", -7, 2), result("mod", -7, 2), result("sar", -7, 33), result("shl", 1, 31)]
        self.assertEqual(found, [-3, -1, -4, -2147483648])

    def test_by_hand(self):
        rows = (
            ("add", GREATEST, 1, LEAST), ("add", LEAST, -1, GREATEST), ("sub", LEAST, 1, GREATEST),
            ("sub", 0, LEAST, LEAST), ("mul", LEAST, -1, LEAST), ("mul", GREATEST, GREATEST, 1),
            ("mul", 65536, 65536, 0), ("and", -1, 12, 12), ("and", LEAST, GREATEST, 0), ("or", LEAST, GREATEST, -1),
            ("xor", 5, -1, -6), ("xor", LEAST, -1, GREATEST), ("shl", 1, -1, LEAST), ("shl", 3, 32, 3),
            ("shl", 3, 31, LEAST), ("shl", 5, -32, 5), ("sar", -1, 40, -1), ("sar", LEAST, 31, -1),
            ("sar", GREATEST, 31, 0), ("sar", -8, -31, -4), ("sar", 9, -32, 9),
            ("lt", 1, 2, 1), ("lt", 2, 2, 0), ("le", 2, 2, 1), ("le", 3, 2, 0), ("eq", 4, 4, 1), ("eq", 4, 5, 0),
            ("ne", 4, 4, 0), ("ne", 4, 5, 1), ("lt", LEAST, GREATEST, 1), ("le", GREATEST, LEAST, 0),
            ("quo", 7, 2, 3), ("quo", -7, 2, -3), ("quo", 7, -2, -3), ("quo", -7, -2, 3), ("quo", 5, 0, -1),
            ("quo", 0, 0, -1), ("quo", LEAST, 0, -1), ("quo", LEAST, -1, LEAST), ("quo", LEAST, 1, LEAST),
            ("quo", 0, -5, 0), ("quo", 1, LEAST, 0), ("mod", 7, 2, 1), ("mod", -7, 2, -1), ("mod", 7, -2, 1),
            ("mod", -7, -2, -1), ("mod", 5, 0, 5), ("mod", LEAST, 0, LEAST), ("mod", LEAST, -1, 0),
            ("mod", LEAST, GREATEST, -1), ("mod", 6, -3, 0),
        )
        for name, a, b, wanted in rows:
            self.assertEqual(result(name, a, b), wanted, (name, a, b))

    def test_all_pairs_of_edges(self):
        for name in OPERATIONS:
            for a in EDGES:
                for b in EDGES:
                    found = result(name, a, b)
                    self.assertEqual(found, operation(name, a, b), (name, a, b))
                    self.assertIs(type(found), int)

    def test_drawn_words(self):
        chance = random.Random(2)
        for _ in range(3000):
            a, b = chance.randint(LEAST, GREATEST), chance.randint(LEAST, GREATEST) >> chance.randint(0, 31)
            for name in OPERATIONS:
                self.assertEqual(result(name, a, b), operation(name, a, b), (name, a, b))


if __name__ == "__main__":
    unittest.main()
