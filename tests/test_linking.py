"""Points 64 to 66: linking, images, and the filling of places; with point 5."""

import itertools
import random
import unittest

from sameruns.basics.errors import BadBase, BadDepth, Missing, NoMain, Twice, Unlike
from sameruns.objects.images import Image
from sameruns.objects.linking import link
from sameruns.objects.objectread import read_listing
from sameruns.objects.objects import Object
from sameruns.objects.places import filled
from sameruns.rows.coding import decode, encode
from tests.secondlink import drawn_objects, second_filled, second_link

ADDRESSES = (0, 4, 2044, 2047, 2048, 2052, 4092, 4096, 6140, 6144, 6148, 1048576, 4096 * 4095 + 2048, 4198400, 2147483647, 2147481599, 2147481600)
MAIN = ["function main 0 8", "  ecall"]


def made(*lines):
    return read_listing(list(lines))


class FilledTest(unittest.TestCase):
    def check(self, word, kind, number):
        found = filled(word, kind, number)
        self.assertIs(type(found), int)
        self.assertEqual(found, second_filled(word, kind, number), (word, kind, number))
        return found

    def test_calls(self):
        for distance in (0, 2, 4, -4, 2046, 2048, -2048, 4096, 1048574, -1048576, 1048572, -2, 524288, 699050, -699050):
            for rd in (0, 1, 5, 31):
                self.assertEqual(decode(self.check(encode(("jal", rd, 0)), "call", distance)), ("jal", rd, distance))
                # The open number is exchanged, whatever it was.
                self.assertEqual(decode(self.check(encode(("jal", rd, -2)), "call", distance)), ("jal", rd, distance))

    def test_addresses(self):
        for address in ADDRESSES:
            for rd, rs in ((0, 0), (5, 5), (31, 1), (1, 31)):
                row = decode(self.check(encode(("lui", rd, 1048575)), "high", address))
                upper = row[2]
                self.assertEqual(row[:2], ("lui", rd))
                for name in ("addi", "lw", "sw"):
                    for imm in (0, -1, 5, -2048):
                        low = decode(self.check(encode((name, rd, rs, imm)), "low", address))
                        self.assertEqual(low[:3], (name, rd, rs))
                        self.assertEqual((upper * 4096 + low[3] - address) % 2 ** 32, 0)
                        self.assertIn(low[3], range(-2048, 2048))

    def test_all_other_bits_stay(self):
        chance = random.Random(7)
        for _ in range(2000):
            word = chance.getrandbits(25) << 7
            number = chance.choice((*ADDRESSES, chance.randint(0, 2 ** 31 - 1)))
            self.check(word | 111, "call", chance.randrange(-1048576, 1048575, 2))
            self.check(word | 55, "high", number)
            for opcode in (19, 3, 35):
                self.check(word | opcode, "low", number)


class ImageTest(unittest.TestCase):
    def check(self, objects, **more):
        parts = [one.parts() for one in objects]
        image = link(*objects, **more)
        self.assertIsInstance(image, Image)
        depth, base = more.get("depth", 32), more.get("base", 4096)
        self.assertEqual(image.parts(), second_link(objects, depth, base))
        self.assertEqual(image.parts(), (image.base, image.depth, image.top, image.words, image.data, image.data_start, image.functions,
                                         image.names, image.marks))
        self.assertIs(type(image.parts()), tuple)
        for field in (image.words, image.data, image.functions, image.names, image.marks):
            self.assertIs(type(field), tuple)
        self.assertEqual(image.size, len(image.words))
        self.assertEqual(image.data_start, base + 4 * image.size)
        for address, kind, chain in image.marks:
            self.assertEqual(image.mark(address), (kind, chain))
        marked = {address for address, _, _ in image.marks}
        for address in range(base - 8, image.data_start + 8):
            if address not in marked:
                self.assertIsNone(image.mark(address))
        self.assertEqual([one.parts() for one in objects], parts)
        self.assertEqual(link(*objects, **more).parts(), image.parts())
        return image

    def test_an_example(self):
        first = made("need function f 1", "word g -7", "array t 3", "function main 0 16", "  jal x1, call f", "mark tell main:2", "  ecall", "  lui x5, high h",
                     "  lw x5, low h(x5)")
        first = first + made("need word h")
        second = made("need word g", "word h 9", "function f 1 24", "mark index f:0", "  ebreak", "  lui x6, high g", "  sw x6, low g(x6)", "  addi x6, x6, low h")
        image = self.check((first, second), depth=3, base=8)
        self.assertEqual((image.base, image.depth, image.size), (8, 3, 13))
        self.assertEqual((image.data, image.data_start), ((-7, 0, 0, 0, 9), 60))
        self.assertEqual(image.top, 60 + 20 + 3 * 24)
        self.assertEqual(image.functions, (("main", 28, 16), ("f", 44, 24)))
        self.assertEqual(image.names, (("g", 60), ("t", 64), ("h", 76)))
        self.assertEqual(image.marks, ((24, "end", ()), (32, "tell", (("main", 2),)), (44, "index", (("f", 0),))))
        self.assertEqual([decode(word) for word in image.words], [
            ("lui", 2, 0), ("addi", 2, 2, 152), ("addi", 4, 0, 2), ("jal", 1, 8), ("ebreak",),
            ("jal", 1, 16), ("ecall",), ("lui", 5, 0), ("lw", 5, 5, 76),
            ("ebreak",), ("lui", 6, 0), ("sw", 6, 6, 60), ("addi", 6, 6, 76)])
        # In the other order, main is farther from the start.
        other = self.check((second, first), depth=3, base=8)
        self.assertEqual(decode(other.words[3]), ("jal", 1, 24))
        self.assertEqual(other.names, (("h", 60), ("g", 64), ("t", 68)))

    def test_the_usual_depth_and_base(self):
        image = self.check((made(*MAIN),))
        self.assertEqual((image.base, image.depth, image.top), (4096, 32, 4096 + 24 + 256))

    def test_depths_and_bases(self):
        for depth in (1, 2, 999, 1000):
            for base in (0, 4, 2020, 2024, 2048, 4096, 1048572, 1048576):
                image = self.check((made("word g 1", *MAIN, "  lui x5, high g", "  addi x5, x5, low g"),), depth=depth, base=base)
                self.assertEqual(decode(image.words[2]), ("addi", 4, 0, depth - 1))
                upper, lower = decode(image.words[0]), decode(image.words[1])
                self.assertEqual(upper[2] * 4096 + lower[3], image.top)

    def test_an_object_without_words(self):
        self.check((made("word g 1", "array t 1000"), made(*MAIN), made()))
        self.assertEqual(self.check((made(), made(*MAIN))).data, ())

    def test_drawn_objects(self):
        for seed in range(200):
            chance = random.Random(seed)
            self.check(drawn_objects(seed), depth=chance.choice((1, 32, 1000)), base=4 * chance.randint(0, 262144))

    def test_orders_and_brackets(self):
        for seed in range(60):
            objects = drawn_objects(seed, most=4)
            for order in itertools.permutations(objects):
                parts = self.check(order, depth=5).parts()
                total = order[0]
                for one in order[1:]:
                    total = total + one
                self.assertEqual(link(total, depth=5).parts(), parts)
                total = order[-1]
                for one in order[-2::-1]:
                    total = one + total
                self.assertEqual(link(total, depth=5).parts(), parts)
                if len(order) == 4:
                    self.assertEqual(link(order[0] + order[1], order[2] + order[3], depth=5).parts(), parts)
                    self.assertEqual(link(order[0], order[1] + order[2], order[3], depth=5).parts(), parts)

    def test_a_great_image(self):
        rows = ["  addi x0, x0, 0"] * 1990
        objects = [made(f"array t{k} 1000", f"function f{k} 0 2044", *rows) for k in range(60)]
        last = made(*[f"need array t{k} 1000" for k in range(60)], "need function f0 0", "function main 0 4", "  jal x1, call f0",
                    *[line for k in range(60) for line in (f"  lui x5, high t{k}", f"  sw x5, low t{k}(x5)")])
        image = self.check((*objects, last), depth=1000, base=1048576)
        self.assertEqual(decode(image.words[5 + 60 * 1990])[2], -4 * 60 * 1990)
        self.check((last, *objects), depth=1000, base=1048576)


class ErrorsTest(unittest.TestCase):
    def refuse(self, error, field, value, *objects, **more):
        with self.assertRaises(error) as caught:
            link(*objects, **more)
        if field:
            self.assertEqual(getattr(caught.exception, field), value)

    def test_depths(self):
        for depth in (0, -1, 1001, 2 ** 40):
            self.refuse(BadDepth, "depth", depth, made(*MAIN), depth=depth)
            # The depth comes first.
            self.refuse(BadDepth, "depth", depth, made("need word g", *MAIN), made(*MAIN), depth=depth, base=2)

    def test_bases(self):
        for base in (-4, -1, 1, 2, 3, 4098, 1048580, 1048577, 2 ** 40, -2 ** 40):
            self.refuse(BadBase, "base", base, made(*MAIN), base=base)
            self.refuse(BadBase, "base", base, made(*MAIN, *MAIN), base=base)

    def test_definitions_that_are_twice(self):
        for lines in (("function f 0 8", "  ecall", "function f 0 8", "  ecall"), ("word f 0", "function f 0 8", "  ecall"), ("word f 0", "word f 0"),
                      ("array f 1", "word f 0"), ("word f 1", "array f 3")):
            self.refuse(Twice, "name", "f", made(*lines, *MAIN))
            # It comes before everything that is said of needs and of main.
            self.refuse(Twice, "name", "f", made("need word nothing", *lines))
        self.refuse(Twice, "name", "g", made("word g 1", *MAIN), made("word h 1", "word g 1"))
        # The first name, in the order of all definitions: functions before data in each object.
        self.refuse(Twice, "name", "main", made("word g 0", *MAIN), made("word g 0", *MAIN))
        self.refuse(Twice, "name", "g", made("word g 0", "word h 0", *MAIN), made("word g 0", "word h 0"))
        self.refuse(Twice, "name", "h", made("word g 0", "word h 0", *MAIN), made("word h 0"), made("word g 0"))
        self.refuse(Twice, "name", "f", made("word f 0", *MAIN), made("function f 0 4", "  ecall"))
        self.refuse(Twice, "name", "main", made("word main 0"), made(*MAIN))
        self.refuse(Twice, "name", "main", made("word main 0", *MAIN))

    def test_needs(self):
        main = made(*MAIN)
        self.refuse(Missing, "name", "g", made("need word g"), main)
        self.refuse(Missing, "name", "g", main, made("need function g 0"))
        self.refuse(Missing, "name", "g", made("need array g 4"))
        definitions = {("word", 0): ("word g 5",), ("array", 4): ("array g 4",), ("array", 5): ("array g 5",), ("function", 0): ("function g 0 4", "  ecall"),
                       ("function", 1): ("function g 1 4", "  ecall")}
        for (kind, count), lines in definitions.items():
            for need in definitions:
                line = f"need {need[0]} g" + (f" {need[1]}" if need[0] != "word" else "")
                for objects in ((made(line), made(*lines), main), (main, made(*lines), made(line)), (made(line, *lines), main)):
                    if need == (kind, count):
                        link(*objects)
                    else:
                        self.refuse(Unlike, "name", "g", *objects)

    def test_the_first_need(self):
        main = made(*MAIN)
        self.refuse(Missing, "name", "a", made("need word a", "need word b"), main)
        self.refuse(Unlike, "name", "b", made("need array b 2", "need word a"), made("array b 1"), main)
        self.refuse(Missing, "name", "a", made("need word a", "need array b 2"), made("array b 1"), main)
        self.refuse(Missing, "name", "z", made("need word b"), made("need word z"), made("need array b 1"), made("word b 0"), main)
        self.refuse(Unlike, "name", "b", made("need word b", "need array b 1"), made("word b 0"), main)
        # All needs come before main.
        self.refuse(Missing, "name", "z", made("need word z"))
        self.refuse(Unlike, "name", "main", made("need function main 0"), made("function main 1 4", "  ecall"))
        self.refuse(Missing, "name", "main", made("need function main 0"))

    def test_main(self):
        for objects in ((made(),), (made("word main 0"),), (made("array main 2"),), (made("function f 0 4", "  ecall"),), (made("word g 1"), made())):
            self.refuse(NoMain, None, None, *objects)
        for params in range(1, 7):
            self.refuse(Unlike, "name", "main", made(f"function main {params} 4", "  ecall"))
        self.assertEqual(vars(NoMain()), {})

    def test_nothing_has_changed(self):
        one = made("need word g", *MAIN)
        parts = one.parts()
        self.refuse(Missing, "name", "g", one)
        self.assertEqual(one.parts(), parts)

    def test_objects_that_come_from_elsewhere(self):
        self.assertEqual(link(Object((115,), (("main", 0, 0, 4),), (), (), (), ())).size, 6)


if __name__ == "__main__":
    unittest.main()
