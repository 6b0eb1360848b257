"""Point 57: the lines of deeds."""

import itertools
import random
import unittest

from sameruns.basics.operations import OPERATIONS
from tests.bench import EDGES, Bench, given_words

AT = (("f", 3),)
FAR = (("main", 1), ("f", 199))
# A kept register, a lost one, and two slots.
PLACES = (8, 10, 32, 39)


class DeedLinesTest(unittest.TestCase):
    def run_deed(self, deed, *rows, **more):
        """Run a deed with each row of words of what it reads; return the ends."""
        bench = Bench(self, deed, **more)
        return [bench.run(given_words(deed, *row)) for row in rows or ((),)]

    def test_word(self):
        for d in PLACES:
            for n in EDGES:
                self.run_deed(("word", d, n))

    def test_copy(self):
        for d, a in itertools.product(PLACES, PLACES):
            self.run_deed(("copy", d, a), *[(n,) for n in EDGES[:3]])

    def test_op(self):
        chance = random.Random(1)
        for name in OPERATIONS:
            for d, a, b in itertools.product((8, 10, 32, 39), repeat=3):
                rows = [(chance.choice(EDGES), chance.choice(EDGES)) for _ in range(5)]
                self.run_deed(("op", d, name, a, b), (7, 7), (7, 0), (-7, 2), *rows)

    def test_op_with_all_edges(self):
        for name in OPERATIONS:
            self.run_deed(("op", 8, name, 10, 32), *itertools.product(EDGES[::2], EDGES[1::2]), *itertools.product(EDGES[:3], EDGES))

    def test_with(self):
        for name in OPERATIONS:
            for n in EDGES:
                for d, a in itertools.product((8, 32), (8, 10, 32, 33)):
                    self.run_deed(("with", d, name, a, n), (n,), (n - (n > 0),))

    def test_with_all_edges(self):
        for name in OPERATIONS:
            for n in EDGES:
                self.run_deed(("with", 8, name, 10, n), *[(word,) for word in EDGES])
                self.run_deed(("with", 32, name, 32, n), *[(word,) for word in EDGES[::3]])

    def test_shifts_by_all_amounts(self):
        for name in ("shl", "sar"):
            for n in range(-70, 70):
                self.run_deed(("with", 10, name, 33, n), (-1,), (1,), (-1431655766,))
                self.run_deed(("op", 10, name, 33, 8), (-1, n), (1, n), (-1431655766, n))

    def test_read_and_write(self):
        for place in PLACES:
            for name in "gh":
                self.run_deed(("read", place, name))
                self.run_deed(("write", name, place), *[(n,) for n in EDGES[:4]])

    def test_load_and_store(self):
        for row, length in (("t", 4), ("u", 1), ("big", 1000), (0, 3), (1, 1), (2, 32)):
            for a, b in itertools.product(PLACES, PLACES):
                for index in {0, length // 2, length - 1}:
                    self.run_deed(("load", a, row, b), (index,), arrays=(3, 1, 32))
                    # With the same variable for both, the index is the word that is stored.
                    self.run_deed(("store", row, a, b), (index, index if a == b else 77), arrays=(3, 1, 32))

    def test_local_arrays_of_great_frames(self):
        for count in (32, 33, 352):
            for number, length in ((0, 32), (1, 31), (2, 1)):
                for index in (0, length - 1):
                    for place in (8, 10) if count == 32 else (8, count - 1):
                        self.run_deed(("load", place, number, place), (index,), arrays=(32, 31, 1), count=count)
                        self.run_deed(("store", number, 9, place), (index, 5), arrays=(32, 31, 1), count=count)

    def test_moves(self):
        self.run_deed(("moves", (), ()))
        for ds, sources in (((8,), (8,)), ((8,), (10,)), ((32,), (33,)), ((8, 10), (10, 8)), ((32, 33), (33, 32)), ((8, 32), (32, 8)),
                            ((8, 10, 32, 33), (10, 32, 33, 8)), ((8, 10, 32, 33, 34), (10, 8, 33, 32, 8)), ((8, 9, 10), (32, 32, 32)),
                            ((32, 33, 34), (8, 8, 32)), ((8, 10, 32, 33, 9, 11), (10, 8, 33, 32, 9, 8)),
                            (tuple(range(32, 52)), (*range(33, 52), 32)), ((8, 10, 9, 11, *range(32, 48)), (*range(32, 48), 8, 10, 9, 11))):
            self.run_deed(("moves", ds, sources), count=60)

    def test_drawn_moves(self):
        for seed in range(400):
            chance = random.Random(seed)
            cells = [8, 10, 9, 11, 18, 12, 27, *range(32, 60)]
            ds = chance.sample(cells, chance.randint(1, 20))
            sources = chance.sample(ds, len(ds)) if seed % 2 else [chance.choice(cells) for _ in ds]
            self.run_deed(("moves", tuple(ds), tuple(sources)), count=60)

    def test_skip(self):
        self.run_deed(("skip",))

    def test_nonzero(self):
        for place in PLACES:
            ends = self.run_deed(("nonzero", place, FAR), *[(n,) for n in EDGES])
            self.assertEqual(ends, [("trap", "divide", FAR) if n == 0 else None for n in EDGES])

    def test_inside(self):
        for n in (1, 2, 3, 32, 33, 999, 1000, 1001, 2047, 2048, 2049, 4096, 1000000, 2147483647):
            for place in PLACES:
                words = (0, 1, -1, n - 1, n, min(n + 1, 2147483647), -n, *EDGES)
                ends = self.run_deed(("inside", place, n, AT), *[(word,) for word in words])
                self.assertEqual(ends, [None if 0 <= word < n else ("trap", "index", AT) for word in words])

    def test_depth(self):
        for k in (1, 2, 3, 31, 500, 999, 1000, 1001, 1008, 2047, 2048, 5000):
            bench = Bench(self, ("depth", k, FAR))
            for left in sorted({0, 1, 2, k - 1, k, k + 1, 31, 999}):
                if left <= 999:
                    self.assertEqual(bench.run(left=left), ("trap", "depth", FAR) if left < k else None)

    def test_long_chains(self):
        chain = tuple([("f", k) for k in range(8)])
        self.run_deed(("nonzero", 8, chain), (0,), (1,))
        self.run_deed(("inside", 8, 4, chain), (4,), (3,))
        self.run_deed(("depth", 6, chain))


if __name__ == "__main__":
    unittest.main()
