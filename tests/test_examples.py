"""Each example of the document, word for word; names that one sets hold in those behind it."""

import os
import unittest

import interface

FOLDER = os.path.join(os.path.dirname(os.path.abspath(__file__)), "examples")


def numbered_files():
    names = [name for name in os.listdir(FOLDER) if name.endswith(".txt")]
    return sorted(names, key=lambda name: int(name[len("section_"):-len(".txt")]))


def pairs_of(text):
    """Pairs of a statement and what is told of it; None for a statement that sets names."""
    pairs = []
    for line in text.splitlines():
        if line.startswith(">>> "):
            pairs.append([line[4:], None])
        else:
            pairs[-1][1] = line
    return pairs


class Examples(unittest.TestCase):
    def check(self, statement, told, names):
        if told is None:
            exec(statement, names)
        elif told.startswith("raises "):
            wanted = eval(told[len("raises "):], names)
            with self.assertRaises(type(wanted)) as caught:
                eval(statement, names)
            self.assertIs(type(caught.exception), type(wanted))
            self.assertEqual(vars(caught.exception), vars(wanted))
        else:
            result = eval(statement, names)
            self.assertEqual(repr(result), repr(eval(told, {})))

    def test_sections(self):
        names, count = interface.all_names(), 0
        for name in numbered_files():
            with open(os.path.join(FOLDER, name), encoding="utf-8") as file:
                for statement, told in pairs_of(file.read()):
                    with self.subTest(section=name, statement=statement):
                        self.check(statement, told, names)
                    count += 1
        self.assertGreater(count, 110)


if __name__ == "__main__":
    unittest.main()
