"""Runs the tests in and below the folders that it is given, each folder by a Python of its own; fails if one fails."""

import os
import re
import subprocess
import sys


def holds_test(files):
    return any(name.startswith("test_") and name.endswith(".py") for name in files)


def top_of(folder):
    """The folder to begin from: above all packages that it is part of."""
    while os.path.exists(os.path.join(folder, "__init__.py")):
        folder = os.path.dirname(folder)
    return folder


def folders_below(root):
    found = []
    for folder, _, files in sorted(os.walk(os.path.abspath(root))):
        if holds_test(files) and top_of(folder) not in found:
            found.append(top_of(folder))
    return found


def number(pattern, text):
    found = re.findall(pattern, text)
    return sum(int(many) for many in found)


def run(folder):
    """Run the tests of this folder: how many passed, how many failed."""
    print("== " + folder, flush=True)
    command = [sys.executable, "-m", "unittest", "discover", "-s", folder, "-t", folder, "-p", "test_*.py"]
    done = subprocess.run(command, stdin=subprocess.DEVNULL, stdout=subprocess.PIPE, stderr=subprocess.STDOUT, text=True)
    print(done.stdout, flush=True)
    ran = number(r"(?m)^Ran (\d+) tests? in", done.stdout)
    last = done.stdout.strip().splitlines()[-1:]
    failed = number(r"(?:failures|errors|unexpected successes)=(\d+)", "".join(last))
    # Whatever the counts say, a run that did not end well is a failed one.
    if done.returncode != 0 and failed == 0:
        failed = 1
    return max(0, ran - failed), failed


def main(roots):
    """The first one is the project's own folder, and has to hold tests; the others need not be there."""
    counts = [run(folder) for root in roots for folder in folders_below(root)]
    passed, failed = sum(count[0] for count in counts), sum(count[1] for count in counts)
    print(f"{passed} passed, {failed} failed")
    return 0 if failed == 0 and passed > 0 and folders_below(roots[0]) else 1


if __name__ == "__main__":
    sys.exit(main(sys.argv[1:]))
