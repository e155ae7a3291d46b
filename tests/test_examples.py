"""The examples of the document, as they stand there, in tests/examples.txt."""

import importlib
import os
import unittest

from handlerims.errors import HandleError

EXAMPLES = os.path.join(os.path.dirname(__file__), "examples.txt")


def lines_of_examples():
    with open(EXAMPLES, encoding="ascii") as lines:
        return [line.rstrip("\n") for line in lines]


def modules():
    """The modules of the package under which examples stand, and those that have none of their own."""
    names = [line[len("# handlerims/"):-len(".py")] for line in lines_of_examples() if line.startswith("# ")]
    return [importlib.import_module("handlerims." + name) for name in ["errors", "shelves", "desk_deeds"] + names]


def examples():
    """Triples: the number of the line, what is typed, what is answered (None where nothing is)."""
    rows = []
    for number, line in enumerate(lines_of_examples(), 1):
        if line.startswith(">>> "):
            rows.append([number, line[4:], None])
        elif line and not line.startswith("# "):
            rows[-1][2] = line
    return rows


def kept_by(error):
    """What an error keeps, errors among that told by their class and by what they keep themselves."""
    return {name: (type(kept), kept_by(kept)) if isinstance(kept, HandleError) else kept
            for name, kept in vars(error).items()}


class Examples(unittest.TestCase):
    def setUp(self):
        self.names = {}
        for module in modules():
            self.names.update({name: worth for name, worth in vars(module).items() if not name.startswith("_")})

    def raised(self, typed, told):
        error = eval(told, self.names)
        with self.assertRaises(HandleError) as caught:
            eval(typed, self.names)
        self.assertIs(type(caught.exception), type(error))
        self.assertEqual(kept_by(caught.exception), kept_by(error))

    def test_each_example_answers_as_told(self):
        rows = examples()
        self.assertEqual(len(rows), 131)
        for number, typed, answer in rows:
            with self.subTest(line=number):
                if answer is None:
                    exec(typed, self.names)
                elif answer.startswith("raises "):
                    self.raised(typed, answer[len("raises "):])
                else:
                    # The texts of both tell True from 1, and lists from tuples.
                    self.assertEqual(repr(eval(typed, self.names)), repr(eval(answer)))
