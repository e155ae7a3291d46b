"""Deed lines: what they do to a shelf, and what is answered."""

from handlerims.desk_lines import DEEDS, parts_of, read_among
from handlerims.renamed import put
from handlerims.rims import Rims
from handlerims.shelves import kind_of_thing, need_shelf, shelf_with, things_told
from handlerims.turnings import turning
from handlerims.words import Word


def made_word(values):
    """The word that is told."""
    return values[0]


def made_exchange(values):
    """The exchange of two words, as it stands."""
    return Word.exchange(values[0], values[1])


def made_then(values):
    """The one word and then the other one."""
    return values[0].then(values[1])


def made_times(values):
    """The word so many times."""
    return values[0].times(values[1])


def made_rims(values):
    """The rims of the words."""
    return Rims(values)


def made_weighing(values):
    """The turning of the letters."""
    return turning(values)


def turned_word(values):
    """The word, begun at this place."""
    return values[0].turned(values[1])


def contrary_word(values):
    """The contrary of the word."""
    return values[0].contrary()


def shortened_word(values):
    """The word shortened."""
    return values[0].shortened()


def rounded_word(values):
    """The word shortened round."""
    return values[0].shortened_round()


def filled_word(values):
    """The word with the other one put for the kind."""
    return put(values[0], values[1], values[2])


# What a line makes of what stands behind its new name, and what it makes of the word that it changes.
MAKERS = {"word": made_word, "exchange": made_exchange, "then": made_then, "times": made_times, "rims": made_rims,
          "weigh": made_weighing}
CHANGERS = {"turn": turned_word, "contrary": contrary_word, "shorten": shortened_word, "round": rounded_word,
            "put": filled_word}


def how_many(thing):
    """How many letters a word, how many bands rims, how many rows a weighing has."""
    if kind_of_thing(thing) == "word":
        return thing.length
    return thing.bands if kind_of_thing(thing) == "rims" else len(thing.rows)


def change_of(shelf, line):
    """What a deed line does: where, which old pairs of a name and a thing go, which new ones come; and the answer."""
    need_shelf(shelf, "shelf")
    first, values = read_among(line, DEEDS)
    things = things_told(shelf, parts_of(first, len(values)), values)
    name = values[0]
    if first in MAKERS:
        make = MAKERS[first]
        thing = make(things[1:])
        return (len(shelf.things), (), ((name, thing),), str(how_many(thing)))
    at = shelf.names.index(name)
    olds = (shelf.things[at],)
    if first == "drop":
        return (at, olds, (), str(len(shelf.things) - 1))
    change = CHANGERS[first]
    word = change(things)
    return (at, olds, ((name, word),), str(word))


def changed(shelf, line):
    """The Shelf behind a deed line, and the answer."""
    at, olds, news, answer = change_of(shelf, line)
    return (shelf_with(shelf, at, olds, news), answer)
