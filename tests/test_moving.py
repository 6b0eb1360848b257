"""Point 51: moves in turn."""

import random
import unittest

from sameruns.homes.moving import in_turn


def rings(pairs):
    """The number of the rings: circles of two or more different cells, each of which has the next one as its source."""
    sources = dict(pairs)
    found = set()
    for first in sources:
        circle, cell = [first], sources[first]
        while cell in sources and cell not in circle:
            circle.append(cell)
            cell = sources[cell]
        if cell == first and len(circle) > 1:
            found.add(frozenset(circle))
    return len(found)


class InTurnTest(unittest.TestCase):
    def check(self, pairs, spare=999):
        found = in_turn(pairs, spare)
        self.assertIs(type(found), list)
        cells = {cell: ("word of", cell) for cell in range(1001)}
        wanted = {**cells, **{target: cells[source] for target, source in pairs}}
        for row in found:
            self.assertIs(type(row), tuple)
            target, source = row
            cells[target] = cells[source]
        wanted[spare] = cells[spare]
        self.assertEqual(cells, wanted)
        self.assertEqual(len(found), len([1 for target, source in pairs if target != source]) + rings(pairs))
        if not rings(pairs):
            self.assertEqual(cells[spare], ("word of", spare))
        self.assertEqual(in_turn(pairs, spare), found)
        self.assertIsNot(in_turn(pairs, spare), found)
        return found

    def test_example_of_the_interface(self):
        self.assertEqual(in_turn(((1, 2), (3, 1), (4, 4)), 9), [(3, 1), (1, 2)])

    def test_no_moves(self):
        self.assertEqual(self.check(()), [])
        self.assertEqual(self.check(((4, 4),)), [])
        self.assertEqual(self.check(((4, 4), (0, 0), (1000, 1000))), [])

    def test_chains(self):
        self.assertEqual(self.check(((1, 2),)), [(1, 2)])
        self.assertEqual(self.check(((2, 3), (1, 2))), [(1, 2), (2, 3)])
        for count in range(1, 41):
            chain = tuple([(k, k + 1) for k in range(count)])
            self.check(chain)
            self.check(chain[::-1])

    def test_rings(self):
        for count in range(2, 41):
            ring = tuple([(k, (k + 1) % count) for k in range(count)])
            self.assertEqual(rings(ring), 1)
            self.check(ring)
            self.check(ring[::-1], 1000)
        self.check(((0, 1000), (1000, 0)), 1)

    def test_several_rings(self):
        several = ((1, 2), (2, 1), (3, 4), (4, 5), (5, 3), (6, 7), (7, 6), (8, 8))
        self.assertEqual(rings(several), 3)
        self.check(several)
        twenty = tuple([(k, k ^ 1) for k in range(40)])
        self.assertEqual(rings(twenty), 20)
        self.check(twenty, 0 + 40)

    def test_rings_with_tails(self):
        self.check(((1, 2), (2, 1), (3, 1)))
        self.check(((3, 1), (1, 2), (2, 1), (4, 3), (5, 2), (6, 6), (7, 6)))
        self.check(((1, 2), (2, 3), (3, 1), (4, 1), (5, 4), (6, 1), (7, 2), (8, 9), (9, 8), (10, 8)))

    def test_one_source_of_several_targets(self):
        self.check(tuple([(k, 500) for k in range(40)]))
        self.check(tuple([(k, 3) for k in range(40)]))
        self.check(tuple([(k, 3) for k in range(39, -1, -1)]))

    def test_drawn_pairs(self):
        many = 0
        for seed in range(3000):
            chance = random.Random(seed)
            count = chance.choice((1, 2, 3, 4, 5, 8, 20, 40))
            cells = chance.sample(range(900), count + chance.randint(0, 3))
            targets = chance.sample(cells, count)
            if seed % 2:
                pairs = tuple(zip(targets, chance.sample(targets, count)))
            else:
                pairs = tuple([(target, chance.choice(cells)) for target in targets])
            many += rings(pairs)
            self.check(pairs, chance.randint(900, 1000))
        self.assertGreater(many, 2000)


if __name__ == "__main__":
    unittest.main()
