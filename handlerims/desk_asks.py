"""Ask lines: what is answered of what a shelf keeps."""

from handlerims.cheapest import cheapest
from handlerims.desk_lines import ASKS, parts_of, read_among
from handlerims.handles import handles_of
from handlerims.mistakes import bar
from handlerims.parted import parted
from handlerims.price import price
from handlerims.rings import root_of
from handlerims.sewings import census
from handlerims.shelves import kind_of_thing, need_shelf, things_told
from handlerims.spelled import spelled_word
from handlerims.squares import squares_of
from handlerims.texts import integer_text
from handlerims.tubes import tube
from handlerims.weighings import value_round


def row_of(items):
    """The items with blanks between, `-` for none."""
    return " ".join(items) if items else "-"


def fraction_text(top, bottom):
    """The fraction, as a price is told."""
    return integer_text(top) + "/" + integer_text(bottom)


def show_answer(values):
    """What the thing is, and its text."""
    return kind_of_thing(values[0]) + " " + str(values[0])


def root_answer(values):
    """How many times the word is its root, and the root."""
    root, times = root_of(values[0])
    return str(times) + " " + str(root)


def census_answer(values):
    """The costs of all sewings of the rims, and how many have each."""
    return row_of([f"{cost}={many}" for cost, many in census(values[0])])


def handles_answer(values):
    """The handles of the word."""
    return str(handles_of(values[0]).number)


def parted_answer(values):
    """Whether the word is parted, as a paper tells it."""
    return parted(values[0]).word


def spelled_answer(values):
    """The pairs of words that spell the word."""
    pairs = spelled_word(values[0]).pairs
    return " / ".join([str(one) + " : " + str(other) for one, other in pairs]) if pairs else "-"


def cheapest_answer(values):
    """The least cost of the rims."""
    return str(cheapest(values[0]).cost)


def tube_answer(values):
    """Whether the words are rims of a tube, as a paper tells it."""
    return tube(values[0], values[1]).word


def squares_answer(values):
    """The squares of the word."""
    return str(squares_of(values[0]).number)


def price_answer(values):
    """The price of the rims."""
    found = price(values[0])
    return fraction_text(found.top, found.bottom)


def value_answer(values):
    """The value of the weighing on the rims."""
    return integer_text(value_round(values[0], values[1]))


def bar_answer(values):
    """The bar that the weighing sets to the price of the rims."""
    found = bar(values[0], values[1])
    return fraction_text(found.top, found.bottom) if found else found.word


ANSWERS = {"names": row_of, "show": show_answer, "root": root_answer, "census": census_answer,
           "handles": handles_answer, "parted": parted_answer, "spelled": spelled_answer, "cheapest": cheapest_answer,
           "tube": tube_answer, "squares": squares_answer, "price": price_answer, "value": value_answer,
           "bar": bar_answer}


def answer_of(shelf, line):
    """The answer to an ask line."""
    need_shelf(shelf, "shelf")
    first, values = read_among(line, ASKS)
    things = things_told(shelf, parts_of(first, len(values)), values)
    answer = ANSWERS[first]
    return answer(shelf.names if first == "names" else things)
