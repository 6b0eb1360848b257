"""Points 1, 71, 72 and 74: the run of the image is the run of the source, in any parting."""

import random
import unittest

from sameruns.lang.unitreading import read_unit
from sameruns.lang.units import Unit, parted, whole
from sameruns.machine.machine import Machine, run_image
from sameruns.objects.linking import link
from sameruns.papers.improving import PASSES
from sameruns.source.source import Source, run_source
from sameruns.whole.compiling import compiled
from tests.drawing import drawn_cut, drawn_declarations
from tests.test_lowering import FILLINGS, full
from tests.test_source import EXAMPLE

SORTING = """word t[12]; word seed = 77;
word next() { seed = seed * 1103515245 + 12345; return seed >> 16 & 32767; }
word fill() { word i; while (i < 12) { t[i] = next() mod 100; i = i + 1; } }
word sort(word low, word high) { word i; word j; word p; word x;
  if (low >= high) { return 0; }
  i = low; j = high; p = t[(low + high) / 2];
  while (i <= j) {
    while (t[i] < p) { i = i + 1; }
    while (t[j] > p) { j = j - 1; }
    if (i <= j) { x = t[i]; t[i] = t[j]; t[j] = x; i = i + 1; j = j - 1; }
  }
  return sort(low, j) + sort(i, high) + 1; }
word main() { word i; word local[4]; fill(); tell sort(0, 11); while (i < 12) { tell t[i]; local[i & 3] = local[i & 3] + t[i]; i = i + 1; }
  return local[0] / (local[1] - local[1]); }"""


def drawn_passes(chance):
    """Some passes in any order."""
    return [chance.choice(PASSES) for _ in range(chance.choice((0, 1, 2, 4, 8)))]


def function_parts(made):
    """For each function of an object what it has: words, number of parameters, frame, places and marks."""
    found = {}
    ends = [start for _, start, _, _ in made.functions[1:]] + [len(made.words)]
    for (name, start, params, frame), end in zip(made.functions, ends):
        inside = [tuple([(row[0] - start, *row[1:]) for row in rows if start <= row[0] < end]) for rows in (made.places, made.marks)]
        found[name] = (made.words[start:end], params, frame, *inside)
    return found


class SameRuns(unittest.TestCase):
    def check(self, units, objects, chance, depth, rounds=12, steps=3000):
        """Compare the run of the image of some objects with the run of the source; return the number of its steps."""
        objects = list(objects)
        chance.shuffle(objects)
        image = link(*objects, depth=depth, base=4 * chance.choice((0, 1, 1024, 262144, chance.randint(0, 262144))))
        source = run_source(units, depth=depth, rounds=rounds, steps=steps)
        if source.steps == steps:
            return 0
        machine = Machine(image)
        machine.go(rounds=rounds, steps=1000000)
        self.assertEqual(machine.run().shown(), source.shown())
        self.assertLess(machine.run().steps, 1000000)
        self.assertLessEqual(machine.run().steps, image.size * (machine.falls + 1))
        self.assertLessEqual(machine.falls, source.steps)
        return source.steps


class ProgramsTest(SameRuns):
    def test_drawn_programs(self):
        done = 0
        for seed in range(260):
            chance = random.Random(seed)
            unit = Unit((), drawn_declarations(seed, 4, 80))
            units = parted(unit, drawn_cut(seed, len(unit.declarations))) if seed % 4 else [unit]
            # Each unit is compiled with passes and a number of its own.
            objects = [compiled(one, *drawn_passes(chance), free=chance.randint(0, 20)) for one in units]
            for depth, rounds in ((1, 12), (2, 0), (3, 1), (32, 12), (32, 2), (1000, 5)):
                done += self.check(units, objects, chance, depth, rounds) > 0
        self.assertGreater(done, 1300)

    def test_every_number_of_free_registers(self):
        unit = read_unit(SORTING)
        for free in range(21):
            for passes in ((), PASSES, ("laid", "laid", "known", "common", "fixed", "dead", "known", "dead")):
                objects = [compiled(unit, *passes, free=free)]
                self.assertGreater(self.check([unit], objects, random.Random(free), 32, 1000, 100000), 1000)

    def test_the_example_of_the_document(self):
        unit = read_unit(EXAMPLE)
        for free in (0, 1, 20):
            image = link(compiled(unit, free=free))
            self.assertEqual(run_image(image).shown(), (((1, (("main", 0), ("f", 2))),), ("trap", "divide", (("main", 0), ("f", 3), ("f", 1))), 0))
            image = link(compiled(unit, free=free), depth=2)
            self.assertEqual(run_image(image).end, ("trap", "depth", (("main", 0), ("f", 3))))

    def test_full_functions(self):
        for filling in FILLINGS[::2]:
            unit = full(filling)
            chance = random.Random(filling)
            for passes in ((), ("known", "dead"), ("laid", "fixed", "common", "known", "dead", "laid")):
                self.check([unit], [compiled(unit, *passes, free=chance.randint(0, 20))], chance, 32, 10)

    def test_the_greatest_program(self):
        """16 functions of 200 nodes in 12 units, and 4,000 items."""
        statement = "if (t[n & 7] / (n + 1) == 3 && f%d(n) > n) { t[n & 7] = n * 2 - g; } "
        rows = [f"word f{k}(word n) {{ {statement.replace('%d', str(k)) * 8} tell n; return n + g; }} " for k in range(15)]
        unit = read_unit("word g = 1; word u0[1000]; word u1[1000]; word u2[1000]; word t[1000]; " + "".join(rows)
                         + "word main() { word i; while (i < 15) { tell f0(i) + f7(i) + f14(i); i = i + 1; } }")
        units = parted(unit, tuple([k % 12 for k in range(len(unit.declarations))]))
        self.assertEqual(len(units), 12)
        for passes in ((), ("laid", "fixed")):
            objects = [compiled(one, *passes, free=5) for one in units]
            self.assertLess(sum([made.size for made in objects]), 250000)
            self.assertGreater(self.check(units, objects, random.Random(1), 1000, 1000, 100000), 100)

    def test_main_that_calls_itself_and_other_units(self):
        unit = read_unit("word n = 4; word t[2]; word k(word a) { if (a) { return main() + a; } return n; } "
                         "word main() { n = n - 1; tell n; t[n & 1] = t[n & 1] + n; return k(n) * 3 + t[1]; }")
        for seed in range(20):
            chance = random.Random(seed)
            units = parted(unit, drawn_cut(seed, 4))
            objects = [compiled(one, *drawn_passes(chance), free=chance.randint(0, 20)) for one in units]
            for depth in (1, 3, 6, 7, 8, 9, 32):
                self.check(units, objects, chance, depth)


class StepsTest(SameRuns):
    """The bounds of points 1, 71 and 72."""

    def test_steps_of_the_source_against_steps_of_the_machine(self):
        looked = 0
        for seed in range(110):
            chance = random.Random(seed)
            unit = Unit((), drawn_declarations(seed, 4, 60))
            units = parted(unit, drawn_cut(seed, len(unit.declarations)))
            depth = chance.choice((2, 32))
            image = link(*[compiled(one, *drawn_passes(chance), free=chance.randint(0, 20)) for one in units], depth=depth)
            source, machine = Source(units, depth=depth), Machine(image)
            for n in sorted({0, 1, 2, 3, 5, 8, 13, 21, 40, 80, chance.randint(80, 400)}):
                source.go(rounds=10000, steps=n)
                machine.go(rounds=10000, steps=min(image.size * (n + 1), 1000000))
                here, there = source.run(), machine.run()
                self.assertEqual(there.told[:len(here.told)], here.told)
                if here.end is not None:
                    self.assertEqual(there.shown(), here.shown())
                self.assertLessEqual(there.steps, image.size * (machine.falls + 1))
                looked += len(here.told)
        self.assertGreater(looked, 300)

    def test_what_is_told_up_to_each_loop_return(self):
        for seed in range(80):
            chance = random.Random(seed)
            unit = Unit((), drawn_declarations(seed, 3, 60))
            image = link(compiled(unit, *drawn_passes(chance), free=chance.randint(0, 20)))
            source, machine = Source([unit]), Machine(image)
            for rounds in range(8):
                source.go(rounds=rounds, steps=3000)
                if source.run().steps >= 3000:
                    break
                machine.go(rounds=rounds, steps=1000000)
                self.assertEqual(machine.run().shown(), source.run().shown())


class PartingTest(unittest.TestCase):
    """Point 74."""

    def test_the_object_of_a_function_in_every_parting(self):
        passes = tuple([name for name in PASSES if name != "laid"])
        for seed in range(60):
            chance = random.Random(seed)
            unit = Unit((), drawn_declarations(seed, 4, 60))
            chosen = [chance.choice(passes) for _ in range(chance.randint(0, 5))]
            free = chance.randint(0, 20)
            expected = function_parts(compiled(unit, *chosen, free=free))
            for cut in range(4):
                units = parted(unit, drawn_cut(100 * seed + cut, len(unit.declarations)))
                found = {}
                for one in units:
                    found.update(function_parts(compiled(one, *chosen, free=free)))
                self.assertEqual(found, expected)

    def test_other_declarations_do_not_count(self):
        one = read_unit("word g; word t[4]; word f(word n) { g = t[n]; return f(g) / 3; }")
        other = read_unit("use word t[4]; word main() { f(2); tell h; } word u[9]; word h; word f(word n) { g = t[n]; return f(g) / 3; } word g = 7;")
        for passes in ((), ("known", "fixed", "common", "dead")):
            for free in (0, 8):
                self.assertEqual(function_parts(compiled(one, *passes, free=free))["f"], function_parts(compiled(other, *passes, free=free))["f"])

    def test_the_whole_of_parts(self):
        unit = Unit((), drawn_declarations(11, 4, 60))
        units = parted(unit, drawn_cut(11, len(unit.declarations)))
        found = [function_parts(compiled(one)) for one in (whole(units), unit)]
        self.assertEqual(found[0], found[1])


if __name__ == "__main__":
    unittest.main()
