"""Runs each test file in a process of its own, and counts the tests."""

import os
import re
import subprocess
import sys
from pathlib import Path

ROOT = Path(__file__).resolve().parent.parent
FOLDERS = (ROOT / "tests", ROOT.parent / "shared" / "tests")
# What unittest exits with, from Python 3.12 on, where a file holds no test.
NO_TEST = 5


def test_files():
    return [path for folder in FOLDERS for path in sorted(folder.rglob("test_*.py"))]


def run_file(path):
    """Return how many tests of a file passed, and how many failed."""
    environment = dict(os.environ, PYTHONPATH=os.pathsep.join([str(path.parent), str(ROOT)]))
    command = [sys.executable, "-m", "unittest", path.stem]
    done = subprocess.run(command, cwd=ROOT, env=environment, capture_output=True, text=True)
    found = re.search(r"^Ran (\d+) tests?", done.stderr, re.MULTILINE)
    count = int(found.group(1)) if found else 0
    if done.returncode in (0, NO_TEST):
        print(f"{path}: {count} passed", flush=True)
        return count, 0
    print(done.stdout + done.stderr, flush=True)
    failed = sum(int(number) for number in re.findall(r"(?:failures|errors|unexpected successes)=(\d+)", done.stderr))
    # A file that cannot even be run to its end counts as a failure, too.
    failed = max(failed, 1)
    print(f"{path}: {failed} failed", flush=True)
    return max(count - failed, 0), failed


def main():
    passed = failed = 0
    for path in test_files():
        good, bad = run_file(path)
        passed += good
        failed += bad
    print(f"{passed} passed, {failed} failed")
    return 1 if failed or not passed else 0


if __name__ == "__main__":
    sys.exit(main())
