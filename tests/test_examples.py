"""The examples of the document, as they stand there, in tests/examples.txt."""

import os
import unittest

from handlerims import (balance, check_handles, check_sewings, checks, errors, exchanged, handles, papers, parted,
                        renamed, rims, ring_lists, rings, sewings, words)
from handlerims.errors import HandleError

MODULES = (errors, checks, papers, words, rings, renamed, balance, rims, sewings, exchanged, check_sewings, handles,
           parted, ring_lists, check_handles)
EXAMPLES = os.path.join(os.path.dirname(__file__), "examples.txt")


def examples():
    """Triples: the number of the line, what is typed, what is answered (None where nothing is)."""
    rows = []
    with open(EXAMPLES, encoding="ascii") as lines:
        for number, line in enumerate(lines, 1):
            line = line.rstrip("\n")
            if line.startswith(">>> "):
                rows.append([number, line[4:], None])
            elif line and not line.startswith("# "):
                rows[-1][2] = line
    return rows


class Examples(unittest.TestCase):
    def setUp(self):
        self.names = {}
        for module in MODULES:
            self.names.update({name: worth for name, worth in vars(module).items() if not name.startswith("_")})

    def raised(self, typed, told):
        error = eval(told, self.names)
        with self.assertRaises(HandleError) as caught:
            eval(typed, self.names)
        self.assertIs(type(caught.exception), type(error))
        self.assertEqual(vars(caught.exception), vars(error))

    def test_each_example_answers_as_told(self):
        rows = examples()
        self.assertEqual(len(rows), 45)
        for number, typed, answer in rows:
            with self.subTest(line=number):
                if answer is None:
                    exec(typed, self.names)
                elif answer.startswith("raises "):
                    self.raised(typed, answer[len("raises "):])
                else:
                    # The texts of both tell True from 1, and lists from tuples.
                    self.assertEqual(repr(eval(typed, self.names)), repr(eval(answer)))
