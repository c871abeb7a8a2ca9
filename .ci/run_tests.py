"""Runs the tests of the folders that it is given, and ends with a line that counts them.

Each folder with tests is run in a process of its own, since two folders may have files of the same name.
"""

import pathlib
import re
import subprocess
import sys


def test_folders(tops):
    """Return the folders with test files in or below the folders named."""
    found = {path.parent for top in tops for path in pathlib.Path(top).rglob("test_*.py")}
    return sorted(found)


def number(pattern, text):
    """Return the number that the last match of a pattern names, 0 if there is none."""
    matches = re.findall(pattern, text)
    return int(matches[-1]) if matches else 0


def run_folder(folder):
    """Run the tests of one folder; return (passed, failed, skipped)."""
    place = str(folder.resolve())
    command = [sys.executable, "-m", "unittest", "discover", "-s", place, "-t", place]
    done = subprocess.run(command, stderr=subprocess.PIPE, text=True)
    print(folder)
    print(done.stderr, flush=True)
    # Other text may look like the summary: only the last lines are that of the runner.
    summary = "\n".join(done.stderr.strip().split("\n")[-3:])
    many = number(r"(?m)^Ran (\d+) tests?", summary)
    kinds = ("failures", "errors", "unexpected successes")
    failed = sum(number(r"\b" + kind + r"=(\d+)", summary) for kind in kinds)
    skipped = number(r"\bskipped=(\d+)", summary)
    if many == 0 or (done.returncode != 0 and failed == 0):
        failed += 1
    return max(many - failed - skipped, 0), failed, skipped


def main(tops):
    """Run all folders; return whether every test passed."""
    results = [run_folder(folder) for folder in test_folders(tops)]
    passed, failed, skipped = [sum(result[place] for result in results) for place in range(3)]
    print(f"{passed} passed, {failed} failed, {skipped} skipped")
    return passed > 0 and failed == 0


if __name__ == "__main__":
    sys.exit(0 if main(sys.argv[1:]) else 1)
