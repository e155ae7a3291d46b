"""What the test cases share."""

import unittest

from handlerims.errors import HandleError
from handlerims.rims import Rims
from handlerims.words import Word


class Odd:
    """An object that breaks where it is compared, measured or shown."""

    __hash__ = None

    def __eq__(self, other):
        raise RuntimeError("compared")

    def __len__(self):
        raise RuntimeError("measured")

    def __bool__(self):
        raise RuntimeError("asked")

    def __str__(self):
        raise RuntimeError("shown")

    __repr__ = __str__


class Agreeing:
    """An object that says to be equal to everything."""

    def __eq__(self, other):
        return True

    __hash__ = None


# No integers among them, and no lists of them but the empty one.
WRONG = (None, True, False, 1.0, 2.5, "", "a", "1", b"a", [], (), {}, [None], ["a"], [True], [[1]], {1: 1}, range(3),
         object(), Odd(), Agreeing(), len, int, Exception("x"), iter([1]), 1j, float("nan"), float("inf"))

# Those of them that are no empty lists: an empty list is a list of anything.
NO_LISTS = tuple(value for value in WRONG if not isinstance(value, (list, tuple)) or len(value) > 0)


class Case(unittest.TestCase):
    """A test case that also tells what an error keeps."""

    def told(self, error, call, *given, **named):
        """Check that the call raises such an error, of this very class, that keeps these values."""
        with self.assertRaises(HandleError) as caught:
            call(*given, **named)
        found = caught.exception
        self.assertIs(type(found), type(error))
        self.assertEqual(list(vars(found)), list(vars(error)))
        for name, value in vars(error).items():
            kept = getattr(found, name)
            self.assertIs(type(kept), type(value))
            # NaN, and objects that refuse to be compared, are known by being the same.
            if kept is not value:
                self.assertEqual(kept, value)

    def wrong_among(self, call, error_of, more=()):
        """Check the error for each wrong value, and for each more that is given."""
        for value in WRONG + tuple(more):
            with self.subTest(kind=type(value).__name__):
                self.told(error_of(value), call, value)


def words(*texts):
    return [Word.read(text) for text in texts]


def rims(text):
    return Rims.read(text)
