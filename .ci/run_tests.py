"""Runs the files test_*.py in the folders that are named, and in the folders in them; fails if a test fails.

The tests of each folder run in a process of their own, since files of two folders may have one name.
"""

import os
import subprocess
import sys
import unittest


def test_modules(folder):
    names = sorted(os.listdir(folder))
    return [name[:-3] for name in names if name.startswith("test_") and name.endswith(".py")]


def folders_with_tests(tops):
    found = [folder for top in tops for folder, _, _ in os.walk(top)]
    return sorted(folder for folder in found if test_modules(folder))


def run_folder(folder):
    """Runs the tests of one folder; the last line tells how many passed, failed and were skipped."""
    sys.path[0] = os.path.abspath(folder)
    suite = unittest.TestLoader().loadTestsFromNames(test_modules(folder))
    result = unittest.TextTestRunner().run(suite)
    failed = len(result.failures) + len(result.errors) + len(result.unexpectedSuccesses)
    skipped = len(result.skipped)
    print(max(result.testsRun - failed - skipped, 0), failed, skipped)


def counts_of(folder):
    """The counts that a process of its own tells of a folder; one that tells none has failed."""
    print(f"tests in {folder}:", file=sys.stderr, flush=True)
    command = [sys.executable, os.path.abspath(__file__), "--folder", folder]
    run = subprocess.run(command, stdout=subprocess.PIPE, text=True, check=False)
    lines = run.stdout.splitlines()
    print("\n".join(lines[:-1]), end="\n" if lines[1:] else "", flush=True)
    try:
        passed, failed, skipped = [int(word) for word in lines[-1].split()]
    except (IndexError, ValueError):
        return 0, 1, 0
    return passed, failed + (1 if run.returncode and not failed else 0), skipped


def main(tops):
    counts = [counts_of(folder) for folder in folders_with_tests(tops)]
    passed, failed, skipped = [sum(column) for column in zip((0, 0, 0), *counts)]
    more = f", {skipped} skipped" if skipped else ""
    print(f"{passed} passed, {failed} failed{more}")
    return 0 if passed and not failed else 1


if __name__ == "__main__":
    if sys.argv[1] == "--folder":
        run_folder(sys.argv[2])
    else:
        sys.exit(main(sys.argv[1:]))
