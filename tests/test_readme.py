"""The lines in README.md that show how to use the program are so."""

import os
import unittest

README = os.path.join(os.path.dirname(os.path.dirname(os.path.abspath(__file__))), "README.md")


class Readme(unittest.TestCase):
    def test_lines(self):
        with open(README, encoding="utf-8") as file:
            lines = [line[4:].rstrip("\n") for line in file if line.startswith("    ")]
        names, count = {}, 0
        for at, line in enumerate(lines):
            if not line.startswith(">>> "):
                continue
            told = lines[at + 1] if at + 1 < len(lines) and not lines[at + 1].startswith(">>> ") else None
            with self.subTest(line=line):
                if told is None or line.startswith(">>> from "):
                    exec(line[4:], names)
                else:
                    self.assertEqual(repr(eval(line[4:], names)), told)
                    count += 1
        self.assertGreater(count, 10)


if __name__ == "__main__":
    unittest.main()
