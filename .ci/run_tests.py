"""Runs every test_*.py under the folders it is given and closes with the count of all of them.

Each file runs in a process of its own, so that files of the same name in two folders,
or a file that ends its process, don't get in one another's way.
"""

import json
import pathlib
import subprocess
import sys
import unittest


class Counted(unittest.TextTestResult):
    passed = 0

    def addSuccess(self, test):
        super().addSuccess(test)
        self.passed += 1


def run_file(path):
    suite = unittest.defaultTestLoader.discover(str(path.parent), path.name, str(path.parent))
    result = unittest.TextTestRunner(stream=sys.stdout, resultclass=Counted).run(suite)
    failed = len(result.failures) + len(result.errors) + len(result.unexpectedSuccesses)
    passed = result.passed + len(result.expectedFailures)
    print()
    print(json.dumps([passed, failed, len(result.skipped)]), flush=True)


def counts_of(path):
    child = subprocess.run(
        [sys.executable, __file__, "--file", str(path)],
        stdin=subprocess.DEVNULL, stdout=subprocess.PIPE, stderr=subprocess.STDOUT, text=True,
    )
    shown, _, last = child.stdout.rstrip("\n").rpartition("\n")
    try:
        counts = json.loads(last)
    except ValueError:
        counts = None
    if child.returncode == 0 and isinstance(counts, list) and len(counts) == 3:
        print(f"{path}\n{shown}")
        return counts
    print(f"{path}: ended without a count\n{child.stdout}")
    return [0, 1, 0]


def run_folders(folders):
    totals = [0, 0, 0]
    for folder in folders:
        if not folder.is_dir():
            print(f"{folder}: no such folder")
            totals[1] += 1
        for path in sorted(folder.rglob("test_*.py")):
            totals = [old + new for old, new in zip(totals, counts_of(path))]
    print(f"{totals[0]} passed, {totals[1]} failed, {totals[2]} skipped")
    return 0 if totals[0] > 0 and totals[1] == 0 else 1


if __name__ == "__main__":
    if sys.argv[1] == "--file":
        run_file(pathlib.Path(sys.argv[2]).resolve())
    else:
        sys.exit(run_folders([pathlib.Path(name) for name in sys.argv[1:]]))
