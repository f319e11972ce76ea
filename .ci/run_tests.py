"""Runs every test of the project and every test under ../shared/tests, and prints how many passed and failed."""

import importlib.util
import os
import sys
import unittest

ROOT = os.path.dirname(os.path.dirname(os.path.abspath(__file__)))
SHARED = os.path.join(os.path.dirname(ROOT), "shared", "tests")


class Counted(unittest.TextTestResult):
    """A result that keeps which tests were begun, which failed and which were left out.

    The tests are kept by their identity, because unittest takes two of one class and method as equal.
    """

    def __init__(self, *args, **named):
        super().__init__(*args, **named)
        self.begun = {}
        self.failed = {}
        self.left_out = {}

    def startTest(self, test):
        super().startTest(test)
        self.begun[id(test)] = test

    def addError(self, test, err):
        super().addError(test, err)
        self.failed[id(test)] = test

    def addFailure(self, test, err):
        super().addFailure(test, err)
        self.failed[id(test)] = test

    def addSubTest(self, test, subtest, err):
        super().addSubTest(test, subtest, err)
        if err is not None:
            self.failed[id(test)] = test

    def addUnexpectedSuccess(self, test):
        super().addUnexpectedSuccess(test)
        self.failed[id(test)] = test

    def addSkip(self, test, reason):
        super().addSkip(test, reason)
        self.left_out[id(test)] = test

    def passed(self):
        """How many tests were begun and neither failed nor were left out."""
        return len([key for key in self.begun if key not in self.failed and key not in self.left_out])


class NotLoaded(unittest.TestCase):
    """Stands for a file that could not be loaded."""

    def __init__(self, path, error):
        super().__init__("not_loaded")
        self.path = path
        self.error = error

    def not_loaded(self):
        raise AssertionError(f"{self.path} could not be loaded") from self.error


def own_suite():
    """The tests of the project."""
    return unittest.TestLoader().discover(os.path.join(ROOT, "tests"), top_level_dir=ROOT)


def shared_files():
    """The test files under ../shared/tests, at any depth."""
    found = []
    for folder, _, names in os.walk(SHARED):
        found += [os.path.join(folder, name) for name in names if name.startswith("test_") and name.endswith(".py")]
    return sorted(found)


def shared_suite():
    """The tests of these files. Each gets a module name of its own, so that no file stands in the way of another."""
    suite = unittest.TestSuite()
    for number, path in enumerate(shared_files()):
        name = f"shared_{number}_{os.path.basename(path)[:-3]}"
        spec = importlib.util.spec_from_file_location(name, path)
        module = importlib.util.module_from_spec(spec)
        sys.modules[name] = module
        sys.path.append(os.path.dirname(path))
        try:
            spec.loader.exec_module(module)
            suite.addTest(unittest.defaultTestLoader.loadTestsFromModule(module))
        except (Exception, SystemExit) as error:
            suite.addTest(NotLoaded(path, error))
    return suite


def main():
    """Runs all tests; the answer is 0 if none failed."""
    sys.path.insert(0, ROOT)
    own = own_suite()
    many = own.countTestCases()
    suite = unittest.TestSuite([own, shared_suite()])
    result = unittest.TextTestRunner(stream=sys.stdout, resultclass=Counted).run(suite)
    if many == 0:
        print("The project has no tests.")
    print(f"{result.passed()} passed, {len(result.failed)} failed", flush=True)
    return 0 if result.wasSuccessful() and many > 0 else 1


if __name__ == "__main__":
    sys.exit(main())
