"""Points 76 to 78: the shop."""

import random
import unittest

from sameruns.basics.errors import (BadBase, BadDepth, BadFree, BadLength, BadName, BadPass, BadText, Missing, NoMain, NoUnit, Stray, TooMany, Twice,
                                    Unknown, Unlike)
from sameruns.lang.unitreading import read_unit
from sameruns.machine.machine import run_image
from sameruns.objects.images import Image
from sameruns.objects.linking import link
from sameruns.objects.objects import Object
from sameruns.papers.improving import PASSES
from sameruns.whole.compiling import compiled
from sameruns.whole.shop import Shop

MAIN = "use word f(1); word main() { return f(4); }"
F = "word f(word n) { return n * g; } word g = 3;"
# The same trees in another spelling, and other trees.
F_AGAIN = "word f(word n)\n{\n  return (n*g);\n}\n\nword g=3;"
F_OTHER = "word f(word n) { return n + g; } word g = 3;"
MAIN_AGAIN = MAIN + "\n"


def state(shop):
    """All that a shop tells, but for the record and its image."""
    names = shop.order()
    return (names, [shop.text(name) for name in names], [shop.made(name).parts() for name in names])


def fresh(shop, *passes, **more):
    """A new shop in which the same texts have been put."""
    other = Shop(*passes, **more)
    for name in shop.order():
        other.put(name, shop.text(name))
    return other


class ShopTest(unittest.TestCase):
    def filled(self, *passes, **more):
        shop = Shop(*passes, **more)
        self.assertIs(shop.put("main", MAIN), True)
        self.assertIs(shop.put("f", F), True)
        return shop

    def test_a_new_shop(self):
        shop = Shop()
        self.assertEqual((shop.order(), shop.compilations()), ([], []))
        self.assertIs(shop.undo(), False)
        with self.assertRaises(NoMain):
            shop.image()
        with self.assertRaises(NoMain):
            shop.image_with(())

    def test_puts(self):
        shop = self.filled()
        self.assertEqual(shop.order(), ["main", "f"])
        self.assertEqual((shop.text("main"), shop.text("f")), (MAIN, F))
        self.assertIsInstance(shop.made("f"), Object)
        self.assertEqual(shop.made("f").parts(), compiled(read_unit(F)).parts())
        self.assertEqual(shop.compilations(), ["main", "f"])
        self.assertEqual(run_image(shop.image()).end, ("end", 12))

    def test_the_same_tree_in_another_spelling(self):
        shop = self.filled()
        made = shop.made("f").parts()
        self.assertIs(shop.put("f", F_AGAIN), False)
        self.assertIs(shop.put("f", F_AGAIN), False)
        self.assertEqual((shop.text("f"), shop.made("f").parts(), shop.order()), (F_AGAIN, made, ["main", "f"]))
        self.assertEqual(shop.compilations(), ["main", "f"])
        # Each of the two is a deed.
        self.assertIs(shop.undo(), True)
        self.assertEqual(shop.text("f"), F_AGAIN)
        self.assertIs(shop.undo(), True)
        self.assertEqual(shop.text("f"), F)

    def test_another_tree(self):
        shop = self.filled()
        self.assertIs(shop.put("main", "word main() { return 1; }"), True)
        self.assertEqual(shop.order(), ["main", "f"])
        self.assertIs(shop.put("main", MAIN), True)
        self.assertEqual(shop.compilations(), ["main", "f", "main", "main"])

    def test_the_same_tree_under_another_name(self):
        shop = self.filled()
        self.assertIs(shop.put("other", F), True)
        self.assertEqual(shop.compilations(), ["main", "f", "other"])
        with self.assertRaises(Twice) as caught:
            shop.image()
        self.assertEqual(caught.exception.name, "f")

    def test_passes_and_numbers(self):
        # The usual number of free registers is 8: here the object hangs on it.
        names = [f"w{k}" for k in range(15)]
        text = "word main() { " + " ".join([f"word {name};" for name in names]) + " return " + " - ".join(names) + "; }"
        shop = Shop()
        shop.put("main", text)
        self.assertEqual(shop.made("main").parts(), compiled(read_unit(text), free=8).parts())
        self.assertNotEqual(shop.made("main").parts(), compiled(read_unit(text), free=7).parts())
        self.assertEqual((shop.image().depth, shop.image().base), (32, 4096))
        for passes, more in (((), {}), (("known",), {"free": 0}), (PASSES, {"free": 20, "depth": 3, "base": 0}), (("laid",), {"depth": 1000, "base": 1048576})):
            shop = self.filled(*passes, **more)
            free = {"free": more.get("free", 8)}
            self.assertEqual(shop.made("f").parts(), compiled(read_unit(F), *passes, **free).parts())
            objects = [compiled(read_unit(text), *passes, **free) for text in (MAIN, F)]
            expected = link(*objects, depth=more.get("depth", 32), base=more.get("base", 4096))
            self.assertIsInstance(shop.image(), Image)
            self.assertEqual(shop.image().parts(), expected.parts())

    def test_drops(self):
        shop = self.filled()
        self.assertIsNone(shop.drop("main"))
        self.assertEqual(shop.order(), ["f"])
        self.assertIs(shop.put("main", MAIN), True)
        self.assertEqual(shop.order(), ["f", "main"])
        self.assertEqual(shop.compilations(), ["main", "f", "main"])
        self.assertEqual(shop.image().functions[0][0], "f")
        for name in ("q", "", "Word", "mainn"):
            for action in (shop.drop, shop.text, shop.made):
                with self.assertRaises(NoUnit) as caught:
                    action(name)
                self.assertEqual(caught.exception.name, name)
        self.assertEqual(shop.order(), ["f", "main"])

    def test_undo(self):
        shop = self.filled()
        first = state(shop)
        shop.put("f", F_OTHER)
        second = state(shop)
        shop.drop("main")
        shop.put("main", MAIN_AGAIN)
        for expected in (None, second, first):
            self.assertIs(shop.undo(), True)
            if expected:
                self.assertEqual(state(shop), expected)
        record = ["main", "f", "f", "main"]
        self.assertEqual(shop.compilations(), record)
        # What was taken back and is put again is compiled again.
        self.assertIs(shop.put("f", F_OTHER), True)
        self.assertEqual(shop.compilations(), [*record, "f"])
        self.assertEqual([shop.undo() for _ in range(5)], [True, True, True, False, False])
        self.assertEqual((shop.order(), shop.compilations()), ([], [*record, "f"]))
        with self.assertRaises(NoUnit):
            shop.text("f")

    def test_undo_of_a_drop_keeps_the_order(self):
        shop = self.filled()
        shop.put("k", "word k;")
        before = state(shop)
        for name in ("main", "f", "k"):
            shop.drop(name)
            self.assertTrue(shop.undo())
            self.assertEqual(state(shop), before)
        # A unit that comes back by undo was compiled already.
        self.assertIs(shop.put("f", F_AGAIN), False)
        self.assertEqual(shop.compilations(), ["main", "f", "k"])

    def test_lists_are_new(self):
        shop = self.filled()
        shop.order().append("x")
        shop.compilations().clear()
        self.assertEqual((shop.order(), shop.compilations()), (["main", "f"], ["main", "f"]))


class ErrorsTest(unittest.TestCase):
    def refuse(self, error, fields, action, *arguments, **more):
        with self.assertRaises(error) as caught:
            action(*arguments, **more)
        self.assertEqual(vars(caught.exception), fields)

    def test_a_shop_that_cannot_be(self):
        self.refuse(BadPass, {"name": "x"}, Shop, "x", free=99, depth=0, base=1)
        self.refuse(BadPass, {"name": "y"}, Shop, *["known"] * 9, "y", free=99)
        self.refuse(TooMany, {"most": 8}, Shop, *["known"] * 9, free=99, depth=0, base=1)
        self.refuse(BadFree, {"free": 21}, Shop, free=21, depth=0, base=1)
        self.refuse(BadFree, {"free": -1}, Shop, *["known"] * 8, free=-1)
        for depth in (0, 1001, -5):
            self.refuse(BadDepth, {"depth": depth}, Shop, depth=depth, base=2)
        for base in (-4, 2, 1048577, 1048580):
            self.refuse(BadBase, {"base": base}, Shop, base=base)
        Shop(*["dead"] * 8, free=0, depth=1, base=0)
        Shop(free=20, depth=1000, base=1048576)

    def test_puts_that_are_refused(self):
        shop = Shop()
        shop.put("main", MAIN)
        shop.put("f", F)
        before = (state(shop), shop.compilations())
        for name in ("", "Word", "word", "abcdefghi", "1a", "a b", "while", "a\n"):
            self.refuse(BadName, {"name": name}, shop.put, name, "no unit")
            self.refuse(BadName, {"name": name}, shop.put, name, F)
        for name in ("f", "new"):
            self.refuse(BadText, {"line": 1, "column": 1}, shop.put, name, "no unit")
            self.refuse(BadText, {"line": 2, "column": 8}, shop.put, name, "word f() {\n  tell 01; x; }")
            self.refuse(Unknown, {"name": "x"}, shop.put, name, "word f() { tell x; }")
            self.refuse(BadLength, {"name": "t"}, shop.put, name, "word t[0];")
            self.refuse(Stray, {"function": "f", "number": 0}, shop.put, name, "word f() { break; }")
            self.refuse(Twice, {"name": "f"}, shop.put, name, "word f; word f;")
            self.refuse(Unlike, {"name": "g"}, shop.put, name, "word g; word f() { g(); }")
        self.assertEqual((state(shop), shop.compilations()), before)
        # They are no deeds.
        self.assertEqual([shop.undo(), shop.undo(), shop.undo()], [True, True, False])

    def test_drops_that_are_refused(self):
        shop = Shop()
        shop.put("f", F)
        self.refuse(NoUnit, {"name": "g"}, shop.drop, "g")
        self.assertTrue(shop.undo())
        self.assertFalse(shop.undo())

    def test_images_that_are_refused(self):
        shop = Shop()
        shop.put("main", MAIN)
        self.refuse(Missing, {"name": "f"}, shop.image)
        shop.put("f", "word f(word a, word b) { }")
        self.refuse(Unlike, {"name": "f"}, shop.image)
        shop.put("f", F)
        shop.put("k", "word main() { }")
        self.refuse(Twice, {"name": "main"}, shop.image)
        shop.drop("main")
        shop.put("k", "word main(word a) { }")
        self.refuse(Unlike, {"name": "main"}, shop.image)
        shop.drop("k")
        self.refuse(NoMain, {}, shop.image)
        shop.drop("f")
        self.refuse(NoMain, {}, shop.image)


class ImageWithTest(unittest.TestCase):
    def setUp(self):
        self.shop = Shop("known", "laid", free=4, depth=7, base=64)
        self.shop.put("main", MAIN)
        self.shop.put("f", F)
        self.shop.put("f", F_OTHER)
        self.shop.drop("f")
        self.shop.put("f", F)

    def check(self, changes, error=None):
        """Ask for an image with changes; compare with a shop in which they are done, and look that nothing else changes."""
        shop = self.shop
        before, record, image = state(shop), shop.compilations(), self.image(shop)
        deeds = self.deeds(shop)
        other = Shop("known", "laid", free=4, depth=7, base=64)
        for name in shop.order():
            other.put(name, shop.text(name))
        own = len(other.compilations())
        expected = caught = None
        try:
            for name, text in changes:
                if text is None:
                    other.drop(name)
                else:
                    other.put(name, text)
            expected = other.image().parts()
        except ValueError as e:
            caught = e
        if caught is None:
            self.assertIsNone(error)
            self.assertEqual(shop.image_with(changes).parts(), expected)
        else:
            with self.assertRaises(type(caught)) as raised:
                shop.image_with(changes)
            self.assertEqual(vars(raised.exception), vars(caught))
            self.assertIs(type(caught), error)
        self.assertEqual(shop.compilations(), record + other.compilations()[own:])
        self.assertEqual((state(shop), self.image(shop)), (before, image))
        self.assertEqual(self.deeds(shop), deeds)
        return len(other.compilations()) - own

    def image(self, shop):
        return shop.image().parts()

    def deeds(self, shop):
        """The units now, and those that came by taking back the deeds, one after another."""
        return [state_of(units) for units in [shop.units, *shop.earlier[::-1]]]

    def test_no_changes(self):
        self.check(())
        self.assertEqual(self.shop.image_with(()).parts(), self.shop.image().parts())

    def test_changes_that_work(self):
        self.assertEqual(self.check((("f", F_OTHER),)), 1)
        self.assertEqual(self.check((("f", F_AGAIN),)), 0)
        self.assertEqual(self.check((("f", None), ("f", F))), 1)
        self.assertEqual(self.check((("main", None), ("k", "word main() { return 5; }"))), 1)
        self.assertEqual(self.check((("k", "use word g; word k() { return g; }"), ("main", "use word k(0); word main() { return k(); }"))), 2)
        self.assertEqual(self.check((("f", F_OTHER), ("f", F), ("f", F), ("f", F_OTHER))), 3)
        self.assertEqual(self.check((("x", "word x;"), ("x", None), ("x", "word x;"), ("x", None))), 2)

    def test_changes_that_raise(self):
        self.assertEqual(self.check((("f", None),), Missing), 0)
        self.assertEqual(self.check((("main", None),), NoMain), 0)
        self.assertEqual(self.check((("main", None), ("f", None)), NoMain), 0)
        self.assertEqual(self.check((("f", F_OTHER), ("z", None)), NoUnit), 1)
        self.assertEqual(self.check((("f", None), ("f", None)), NoUnit), 0)
        self.assertEqual(self.check((("f", F_OTHER), ("Z", F), ("k", "word k;")), BadName), 1)
        self.assertEqual(self.check((("k", "word k;"), ("f", "word f"), ("q", "word q;")), BadText), 1)
        self.assertEqual(self.check((("k", "word k;"), ("f", F_OTHER), ("f", "word f() { tell x; }"), ("q", "word q;")), Unknown), 2)
        self.assertEqual(self.check((("k", F_OTHER),), Twice), 1)
        self.assertEqual(self.check((("k", "word k;"), ("f", "word f() { }")), Unlike), 2)

    def test_each_change_is_done_before_the_next_one_is_looked_at(self):
        self.assertEqual(self.check((("z", None), ("Z", "no unit")), NoUnit), 0)
        self.assertEqual(self.check((("z", "no unit"), ("z", None)), BadText), 0)

    def test_afterwards(self):
        self.check((("f", F_OTHER), ("k", "word k;")))
        # What was compiled for the image only is compiled again.
        record = self.shop.compilations()
        self.assertIs(self.shop.put("f", F_OTHER), True)
        self.assertIs(self.shop.undo(), True)
        self.assertIs(self.shop.put("f", F_AGAIN), False)
        self.assertEqual(self.shop.compilations(), [*record, "f"])


def state_of(units):
    """What is kept of some units."""
    return [(name, text, tree, made.parts()) for name, (text, tree, made) in units.items()]


class DrawnTest(unittest.TestCase):
    """A shop beside a plain list of what it had after each deed."""

    TEXTS = ("word main() { return f(1); } use", MAIN, MAIN_AGAIN, F, F_AGAIN, F_OTHER, "word g = 3;", "use word g; word f(word n) { return g; }",
             "word main() { }", "word main() { break; }", "", "\n", "word h[3];")

    def test_drawn_deeds(self):
        for seed in range(60):
            chance = random.Random(seed)
            passes = [chance.choice(PASSES) for _ in range(chance.randint(0, 2))]
            more = {"free": chance.randint(0, 20), "depth": chance.randint(1, 9), "base": 4 * chance.randint(0, 9)}
            shop = Shop(*passes, **more)
            states, record = [[]], []
            for _ in range(30):
                self.one_deed(chance, shop, states, record)
                units = states[-1]
                self.assertEqual(shop.order(), [name for name, _ in units])
                self.assertEqual([shop.text(name) for name, _ in units], [text for _, text in units])
                for name, text in units:
                    self.assertEqual(shop.made(name).parts(), compiled(read_unit(text), *passes, free=more["free"]).parts())
                self.assertEqual(shop.compilations(), record)
                self.same_image(shop, passes, more)

    def one_deed(self, chance, shop, states, record):
        units = states[-1]
        kind, name, text = chance.choice(("put", "put", "put", "drop", "undo")), chance.choice(("main", "f", "k", "9")), chance.choice(self.TEXTS)
        known = dict(units)
        if kind == "undo":
            self.assertIs(shop.undo(), len(states) > 1)
            del states[max(1, len(states) - 1):]
        elif kind == "drop":
            if name in known:
                shop.drop(name)
                states.append([row for row in units if row[0] != name])
            else:
                self.assertRaises(NoUnit, shop.drop, name)
        elif name == "9":
            self.assertRaises(BadName, shop.put, name, text)
        elif text.endswith("use"):
            self.assertRaises(BadText, shop.put, name, text)
        elif "break" in text:
            self.assertRaises(Stray, shop.put, name, text)
        else:
            is_new = name not in known or read_unit(known[name]).parts() != read_unit(text).parts()
            self.assertIs(shop.put(name, text), is_new)
            record += [name] if is_new else []
            states.append([(other, text if other == name else old) for other, old in units] + ([] if name in known else [(name, text)]))

    def same_image(self, shop, passes, more):
        """Point 77."""
        answers = []
        for one in (shop, fresh(shop, *passes, **more)):
            try:
                answers.append(one.image().parts())
            except ValueError as e:
                answers.append((type(e), vars(e)))
        self.assertEqual(answers[0], answers[1])


if __name__ == "__main__":
    unittest.main()
