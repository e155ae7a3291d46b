"""Papers: answers that show what they tell."""

from handlerims.checks import is_listed


def fixed(value):
    """The value with tuples in the place of lists, all the way in."""
    if is_listed(value):
        return tuple([fixed(part) for part in value])
    return value


def are_called_alike(one, other):
    """Whether the classes that made the two have one name."""
    return one.__class__.__name__ == other.__class__.__name__


def is_called(value, name):
    """Whether the value was made by the class of this name itself, not by one below it."""
    return value.__class__.__name__ == name


class Paper:
    """An answer and what shows it; it is true."""

    def __init__(self, word, *parts):
        self.word = fixed(word)
        self.parts = fixed(parts)

    def __eq__(self, other):
        if not isinstance(other, Paper) or not are_called_alike(self, other):
            return False
        return self.word == other.word and self.parts == other.parts

    def __bool__(self):
        return True


class Denial(Paper):
    """A paper that says no; it is false."""

    def __init__(self, word, *parts):
        Paper.__init__(self, word, *parts)

    def __eq__(self, other):
        if not isinstance(other, Denial) or not are_called_alike(self, other):
            return False
        return self.word == other.word and self.parts == other.parts

    def __bool__(self):
        return False
