"""Runs the tests of one folder. The last line tells how many passed and how many failed."""

import sys
import unittest


def main(folder, top):
    suite = unittest.defaultTestLoader.discover(folder, pattern="test_*.py", top_level_dir=top)
    result = unittest.TextTestRunner(stream=sys.stdout).run(suite)
    failed = len(result.failures) + len(result.errors) + len(result.unexpectedSuccesses)
    # A folder in which no test was found is a fault, too.
    failed = failed or int(result.testsRun == 0)
    passed = max(0, result.testsRun - failed - len(result.skipped))
    print(passed, failed)
    return int(failed > 0)


if __name__ == "__main__":
    sys.exit(main(sys.argv[1], sys.argv[2]))
