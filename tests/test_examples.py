"""The blocks under "Examples" of the document, as they stand in examples.txt."""

import os
import unittest

from forkhaul import errors

FOLDER = os.path.dirname(os.path.abspath(__file__))


def blocks():
    """The blocks: the lines to run, and the last line, which says what the last one of them gives."""
    with open(os.path.join(FOLDER, "examples.txt"), encoding="ascii") as file:
        parts = file.read().strip("\n").split("\n\n")
    rows = []
    for part in parts:
        *lines, wanted = part.split("\n")
        rows.append(([line.removeprefix(">>> ") for line in lines], wanted))
    return rows


class Examples(unittest.TestCase):
    def test_each_block(self):
        self.assertEqual(len(blocks()), 30)
        for lines, wanted in blocks():
            with self.subTest(last=lines[-1]):
                names = {}
                for line in lines[:-1]:
                    exec(line, names)
                if wanted.startswith("raises "):
                    self.check_error(lines[-1], names, wanted.removeprefix("raises "))
                else:
                    self.assertEqual(repr(eval(lines[-1], names)), wanted)

    def check_error(self, line, names, wanted):
        error = eval(wanted, vars(errors))
        if isinstance(error, type):
            error = error()
        with self.assertRaises(type(error)) as caught:
            exec(line, names)
        self.assertIs(type(caught.exception), type(error))
        if not hasattr(error, "why"):
            self.assertEqual(vars(caught.exception), vars(error))


if __name__ == "__main__":
    unittest.main()
