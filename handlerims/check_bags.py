"""Whether papers about bags are right."""

from handlerims.bags import need_bag
from handlerims.built import Built, are_equal_rounds, are_numbers_of_words, bag_of_rounds
from handlerims.papers import is_called
from handlerims.sewings import Sewing


def shows_built(bag, value):
    """Whether the value is a Built of any Sewing whose bag this is."""
    need_bag(bag, "bag")
    if not isinstance(value, Built) or not is_called(value, "Built") or not isinstance(value.sewing, Sewing):
        return False
    sewing, rims, words = value.sewing, bag.rims, value.words
    if not are_numbers_of_words(sewing, rims, words) or not are_equal_rounds(sewing, rims, words):
        return False
    return bag_of_rounds(sewing, rims, words) == bag
