"""The example rows of the document, as they stand there: each block of examples.txt is one of its sections."""

import importlib
import os
import unittest

from pureladders import errors
from tests.checked import KEPT
from tests.test_language import INTERFACE

with open(os.path.join(os.path.dirname(os.path.abspath(__file__)), "examples.txt"), encoding="utf-8") as handle:
    BLOCKS = [block.split("\n") for block in handle.read().strip("\n").split("\n\n")]


def all_names():
    """The names of all modules of the interface, but for the constants, of which some stand in several modules."""
    names = {}
    for module, listed in INTERFACE.items():
        for name in listed.split():
            if not name.isupper():
                assert name not in names, name
                names[name] = getattr(importlib.import_module(module), name)
    return names


class ExamplesTest(unittest.TestCase):
    def test_how_many(self):
        self.assertEqual([len(BLOCKS), sum(line.startswith(">>> ") for block in BLOCKS for line in block)], [19, 112])
        self.assertTrue(all(block[0].startswith(">>> ") for block in BLOCKS))

    def test_all_rows(self):
        names = all_names()
        exec(BLOCKS[0][0][4:], names)
        for block in BLOCKS[1:]:
            self.run_block(block, dict(names))

    def run_block(self, block, names):
        for line, answer in zip(block, block[1:] + [">>> "]):
            if line.startswith(">>> "):
                with self.subTest(line):
                    self.run_row(line[4:], None if answer.startswith(">>> ") else answer, names)

    def run_row(self, row, answer, names):
        if answer is None:
            exec(row, names)
        elif answer.startswith("raises "):
            self.check_error(row, answer.removeprefix("raises "), names)
        else:
            found, expected = eval(row, names), eval(answer, {})
            self.assertEqual(found, expected)
            self.assertEqual(repr(found), repr(expected))

    def check_error(self, row, answer, names):
        with self.assertRaises(Exception) as caught:
            exec(row, names)
        name = answer.partition("(")[0]
        self.assertIs(type(caught.exception), getattr(errors, name))
        if "(" in answer:
            kept = KEPT[type(caught.exception)]
            self.assertEqual(getattr(caught.exception, kept), getattr(eval(answer, names), kept))


if __name__ == "__main__":
    unittest.main()
