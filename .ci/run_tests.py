"""Run the tests of the project and those under ../shared/tests; exit 1 if one fails or the project has none."""

import os
import sys
import unittest

ROOT = os.path.dirname(os.path.dirname(os.path.abspath(__file__)))
SHARED = os.path.join(os.path.dirname(ROOT), "shared", "tests")


class CountingResult(unittest.TextTestResult):
    """A result that counts the tests that passed."""

    passed = 0

    def addSuccess(self, test):
        super().addSuccess(test)
        self.passed += 1


def load(start, top):
    # A loader of its own for each folder, as a loader remembers the top folder that it was given first.
    return unittest.TestLoader().discover(start, pattern="test_*.py", top_level_dir=top)


def load_shared():
    """Load the tests of every folder under ../shared/tests, and none if it does not exist."""
    suite = unittest.TestSuite()
    for folder, _, files in sorted(os.walk(SHARED)):
        # Loading a folder goes into the packages inside it, but into no other folders.
        if folder == SHARED or "__init__.py" not in files:
            suite.addTest(load(folder, folder))
    return suite


def main():
    sys.path.insert(0, ROOT)
    own = load(os.path.join(ROOT, "tests"), ROOT)
    if own.countTestCases() == 0:
        print("the project has no tests")
        return 1
    shared = load_shared()
    print(f"Python {sys.version.split()[0]}: {own.countTestCases()} tests of the project, ", end="")
    print(f"{shared.countTestCases()} tests under ../shared/tests", flush=True)
    runner = unittest.TextTestRunner(stream=sys.stdout, resultclass=CountingResult)
    result = runner.run(unittest.TestSuite([own, shared]))
    wrong = len(result.failures) + len(result.errors) + len(result.unexpectedSuccesses)
    print(f"{result.passed} passed, {wrong} failed", flush=True)
    return 0 if result.wasSuccessful() else 1


if __name__ == "__main__":
    sys.exit(main())
