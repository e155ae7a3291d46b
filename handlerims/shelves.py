"""Shelves: what a desk keeps."""

from handlerims.checks import first_twice, is_listed, is_name
from handlerims.errors import BadDesk, Misfit, NoName, Twice
from handlerims.rims import Rims
from handlerims.weighings import Weighing
from handlerims.words import Word

# The parts of lines that are names under which something is kept.
KEPT = ("word", "rims", "weighing", "thing")


def need_shelf(value, part):
    """Raise BadDesk unless the value is a Shelf."""
    if not isinstance(value, Shelf):
        raise BadDesk(part)


def kind_of_thing(value):
    """What the value is: a word, rims or a weighing; None if it is none of these."""
    if isinstance(value, Word):
        return "word"
    if isinstance(value, Rims):
        return "rims"
    return "weighing" if isinstance(value, Weighing) else None


def is_named_thing(value):
    """Whether the value is a pair of a name and a thing."""
    return is_listed(value) and len(value) == 2 and is_name(value[0]) and kind_of_thing(value[1]) is not None


def names_of(things):
    """The names of pairs of a name and a thing."""
    return tuple([name for name, _ in things])


class Shelf:
    """Things, each under a name, in their order."""

    def __init__(self, things=()):
        if not is_listed(things) or not all([is_named_thing(pair) for pair in things]):
            raise BadDesk("things")
        self.things = tuple([(name, thing) for name, thing in things])
        self.names = names_of(things)
        again = first_twice(self.names)
        if again is not None:
            raise Twice(again)

    def __eq__(self, other):
        return isinstance(other, Shelf) and self.things == other.things

    def thing(self, name):
        """What is kept under this name."""
        if not is_name(name) or name not in self.names:
            raise NoName(name)
        return self.things[self.names.index(name)][1]

    def thing_of(self, kind, name):
        """What is kept under this name, a thing of this kind."""
        found = self.thing(name)
        if kind_of_thing(found) != kind:
            raise Misfit("kinds")
        return found

    def word(self, name):
        """The Word that is kept under this name."""
        return self.thing_of("word", name)

    def rims(self, name):
        """The Rims that are kept under this name."""
        return self.thing_of("rims", name)

    def weighing(self, name):
        """The Weighing that is kept under this name."""
        return self.thing_of("weighing", name)


def shelf_with(shelf, at, olds, news):
    """The Shelf on which these new pairs, one or none, stand in the place of these old ones, one or none."""
    behind = at + len(olds)
    # All are right already: to look at each of them again for each line would take long on a long shelf.
    made = Shelf()
    made.things = shelf.things[:at] + news + shelf.things[behind:]
    made.names = shelf.names[:at] + names_of(news) + shelf.names[behind:]
    return made


def things_told(shelf, parts, values):
    """The values of a line's parts, with the things in the place of the names under which they are kept."""
    pairs = list(zip(parts, values))
    found = [shelf.thing(value) if part in KEPT else value for part, value in pairs]
    for part, thing in zip(parts, found):
        if part in KEPT and part != "thing" and kind_of_thing(thing) != part:
            raise Misfit("kinds")
    for part, name in pairs:
        if part == "new" and name in shelf.names:
            raise Twice(name)
    return found
