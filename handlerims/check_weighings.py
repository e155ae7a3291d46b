"""Whether papers about weighings are right."""

from handlerims.checks import is_integer, is_listed
from handlerims.letters import kinds_of
from handlerims.mistakes import AtLeast, Mistake, NoBar, bar, count_three, mistake_of
from handlerims.papers import is_called
from handlerims.turnings import Turned, best_turning, is_order, stretches_round, turning_value


def shows_mistake(weighing, kinds, value):
    """Whether the value is the Mistake of the weighing for these kinds, with any three letters that have it."""
    found = mistake_of(weighing, kinds)
    if not isinstance(value, Mistake) or not is_called(value, "Mistake"):
        return False
    if not is_integer(value.number) or not is_listed(value.three) or len(value.three) != 3:
        return False
    if not all([is_integer(letter) and abs(letter) in kinds for letter in value.three]):
        return False
    x, y, z = value.three
    return value.number == found.number == count_three(weighing, x, y, z)


def shows_bar(weighing, rims, value):
    """Whether the value is the AtLeast of this weighing and these rims, or the NoBar if there is none."""
    found = bar(weighing, rims)
    if isinstance(value, AtLeast) and not (is_integer(value.top) and is_integer(value.bottom)):
        return False
    return (isinstance(value, AtLeast) or isinstance(value, NoBar)) and found == value


def shows_turned(rims, value):
    """Whether the value is a Turned of the rims, with any order that has the greatest value, begun anywhere."""
    found = best_turning(rims)
    if not isinstance(value, Turned) or not is_called(value, "Turned"):
        return False
    if not is_integer(value.value) or not is_order(value.order) or kinds_of(value.order) != kinds_of(rims.letters):
        return False
    return value.value == found.value == turning_value(value.order, stretches_round(rims))
