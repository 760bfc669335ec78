"""Run each test file of the project and of ../shared/tests in a process of its own, and count."""

import os
import re
import subprocess
import sys
from concurrent.futures import ThreadPoolExecutor
from pathlib import Path

ROOT = Path(__file__).resolve().parent.parent
SHARED = ROOT.parent / "shared" / "tests"


def test_files():
    """The test files of both folders; a folder that is not there has none."""
    found = []
    for folder in (ROOT / "tests", SHARED):
        if folder.is_dir():
            found.extend(sorted(folder.rglob("test_*.py")))
    return found


def run_file(path):
    """Run one file; return its path, its exit code and what it printed."""
    # Each file is run where it stands, so that files of the same name do not meet.
    env = dict(os.environ, PYTHONPATH=str(ROOT), PYTHONDONTWRITEBYTECODE="1")
    command = [sys.executable, "-m", "unittest", path.stem]
    done = subprocess.run(
        command, cwd=path.parent, env=env, stdin=subprocess.DEVNULL,
        stdout=subprocess.PIPE, stderr=subprocess.STDOUT, text=True, errors="replace",
    )
    return path, done.returncode, done.stdout


def number(pattern, printed):
    """The last number that a pattern finds in what a file printed, or 0."""
    found = re.findall(pattern, printed, re.MULTILINE)
    return int(found[-1]) if found else 0


def counts(code, printed):
    """How many tests passed, failed and were skipped in one file."""
    ran = number(r"^Ran (\d+) tests? in ", printed)
    wrong = sum(number(rf"^FAILED \(.*\b{word}=(\d+)", printed)
                for word in ("failures", "errors", "unexpected successes"))
    skipped = number(r"^(?:OK|FAILED) \(.*\bskipped=(\d+)", printed)
    # Newer Pythons end with 5 if a file has no test, which is no failure.
    if code != 0 and not (code == 5 and ran == 0):
        wrong = max(wrong, 1)
    return max(ran - wrong - skipped, 0), wrong, skipped


def main():
    files = test_files()
    passed = failed = skipped = 0
    with ThreadPoolExecutor(max_workers=os.cpu_count() or 1) as pool:
        for path, code, printed in pool.map(run_file, files):
            good, wrong, left_out = counts(code, printed)
            passed += good
            failed += wrong
            skipped += left_out
            print(f"{path}: {good} passed, {wrong} failed, {left_out} skipped", flush=True)
            if wrong:
                print(printed, flush=True)
    print(f"ran {passed + failed} tests of {len(files)} files")
    print(f"{passed} passed, {failed} failed, {skipped} skipped")
    return 1 if failed or passed == 0 else 0


if __name__ == "__main__":
    sys.exit(main())
