"""Runs the tests of the project, then each file of tests under ../shared/tests, and prints how many ran."""

import re
import subprocess
import sys
from pathlib import Path

ROOT = Path(__file__).resolve().parent.parent
SHARED = ROOT.parent / "shared" / "tests"


def ran_and_failed(folder, *words):
    """How many tests ran, and how many of them failed; each call is a process of its own, since files may have like names."""
    done = subprocess.run([sys.executable, "-m", "unittest", *words], cwd=folder, stdout=subprocess.PIPE, stderr=subprocess.STDOUT, text=True)
    print(done.stdout, flush=True)
    ran = sum(int(number) for number in re.findall(r"^Ran (\d+) tests? in ", done.stdout, re.MULTILINE)[-1:])
    told = re.findall(r"^FAILED \((.*)\)$", done.stdout, re.MULTILINE)[-1:]
    failed = sum(int(number) for line in told for number in re.findall(r"(?:failures|errors|unexpected successes)=(\d+)", line))
    # From Python 3.12 on unittest ends with 5 if there was no test to run.
    if done.returncode not in (0, 5):
        failed = max(failed, 1)
    return ran, failed


def main():
    ran, failed = ran_and_failed(ROOT, "discover", "-s", "tests", "-t", ".", "-p", "test_*.py")
    if ran == 0:
        print("no test of the project ran")
        failed = max(failed, 1)
    for path in sorted(SHARED.rglob("test_*.py")):
        print(f"shared: {path.relative_to(SHARED)}", flush=True)
        more, wrong = ran_and_failed(path.parent, path.name)
        ran, failed = ran + more, failed + wrong
    print(f"{ran} tests ran")
    # One test may fail in several places.
    print(f"{max(ran - failed, 0)} passed, {failed} failed")
    return 1 if failed else 0


if __name__ == "__main__":
    sys.exit(main())
