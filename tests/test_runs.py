"""Point 7: what a Run has."""

import unittest

from sameruns.basics.runs import Run


class RunTest(unittest.TestCase):
    def test_fields(self):
        told = ((5, (("main", 0),)),)
        run = Run(told, ("end", 3), 12, 2)
        self.assertEqual([run.told, run.end, run.steps, run.rounds], [told, ("end", 3), 12, 2])

    def test_shown_leaves_the_steps_out(self):
        self.assertEqual(Run((), None, 12, 2).shown(), ((), None, 2))
        told = ((5, (("main", 0), ("f", 1))),)
        self.assertEqual(Run(told, ("trap", "index", (("main", 0),)), 9, 0).shown(),
                         (told, ("trap", "index", (("main", 0),)), 0))

    def test_told_is_a_tuple(self):
        self.assertIs(type(Run((), None, 0, 0).told), tuple)
        self.assertIs(type(Run((), None, 0, 0).shown()), tuple)


if __name__ == "__main__":
    unittest.main()
