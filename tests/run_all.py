"""Run every test of the project and of ../shared/tests, and count them."""

import importlib.util
import sys
import unittest
from pathlib import Path

ROOT = Path(__file__).resolve().parent.parent
SHARED = ROOT.parent / "shared" / "tests"


class CountingResult(unittest.TextTestResult):
    """A result that counts the tests that passed."""

    passed = 0

    def addSuccess(self, test):
        super().addSuccess(test)
        self.passed += 1


def own_tests():
    return unittest.TestLoader().discover(str(ROOT / "tests"), top_level_dir=str(ROOT))


def shared_tests():
    """Return the tests of each shared file; two files may have the same name."""
    suite = unittest.TestSuite()
    for number, path in enumerate(sorted(SHARED.rglob("test_*.py"))):
        sys.path.insert(1, str(path.parent))
        spec = importlib.util.spec_from_file_location(f"shared_{number}_{path.stem}", path)
        module = importlib.util.module_from_spec(spec)
        sys.modules[spec.name] = module
        spec.loader.exec_module(module)
        suite.addTests(unittest.TestLoader().loadTestsFromModule(module))
    return suite


def main():
    sys.path.insert(0, str(ROOT))
    suite = unittest.TestSuite([own_tests(), shared_tests()])
    runner = unittest.TextTestRunner(stream=sys.stdout, resultclass=CountingResult)
    result = runner.run(suite)
    failed = len(result.failures) + len(result.errors) + len(result.unexpectedSuccesses)
    print(f"{result.passed} passed, {failed} failed, {len(result.skipped)} skipped")
    return 0 if result.wasSuccessful() and result.passed > 0 else 1


if __name__ == "__main__":
    sys.exit(main())
