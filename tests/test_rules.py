"""What [2] and [3] say of the whole program: the errors of parameters in their order, in all functions and methods."""

import importlib
import os

from handlerims.bags import Bag
from handlerims.crossed import CrossSewing
from handlerims.desk import Desk
from handlerims.errors import (BadBag, BadDesk, BadNumber, BadPaper, BadRims, BadSewing, BadText, BadWeighing, BadWord)
from handlerims.papers import Denial, Paper
from handlerims.rims import Rims
from handlerims.sewings import Sewing
from handlerims.shelves import Shelf
from handlerims.spellings import Spelling
from handlerims.weighings import Weighing
from handlerims.weights import Weights
from handlerims.words import Word
from tests.cases import WRONG, Case, Odd
from tests.test_interface import CLASSES, FOLDER, FUNCTIONS

WORD, RING = Word([1, 2, -1, -2]), Rims([Word([1, 2, -1, -2])])
SEWING, CROSSED = Sewing(RING, [2, 3, 0, 1]), CrossSewing(Word([1, 1]), [1, 0])
BAG, WEIGHING = Bag(RING, [((0, 3, 2, 1), 1)]), Weighing([(1, 2, 3)])
# What the kinds of parameters are told as: a right value, and the error for any other.
KINDS = {"word": (WORD, BadWord), "rims": (RING, BadRims), "sewing": (SEWING, BadSewing),
         "crossed": (CROSSED, BadSewing), "bag": (BAG, BadBag), "weighing": (WEIGHING, BadWeighing),
         "desk": (Desk(), BadDesk), "shelf": (Shelf(), BadDesk),
         "number": (2, BadNumber), "spelling": (Spelling([(WORD, WORD)]), BadPaper),
         "weights": (Weights([1] * 4, [1] * 4, 4), BadPaper)}
# The parameters of all functions, one after the other, until one that is told otherwise (a list, a line, any value).
TOLD = {
    "rings": {"turn_to": "word word", "least_turned": "word", "root_of": "word", "go_past": "word word",
              "common_root": "word word"},
    "checks": {"common_divisor": "number number", "lowest": "number number"},
    "renamed": {"renamed": "word", "put": "word number word"}, "balance": {"balance": "word", "is_balanced": "word"},
    "sewings": {"all_sewings": "rims", "census": "rims", "many_sewings": "rims", "Sewing": "rims"},
    "exchanged": {"exchanged": "sewing", "way": "sewing sewing", "way_between": "sewing sewing", "with_pair": "sewing",
                  "without_pair": "sewing"},
    "check_sewings": {"shows_way": "sewing sewing"},
    "handles": {"handles_of": "word", "rounds_of_exchange": "number", "most_for_rounds": "number number"},
    "parted": {"parted": "word"},
    "ring_lists": {"balanced_rings": "number number", "rings_with": "number number number"},
    "check_handles": {"shows_handles": "word", "shows_parted": "word"},
    "spellings": {"undone": "spelling", "moved": "spelling word", "put_in": "spelling number word"},
    "spelled": {"spelled": "sewing", "spelled_word": "word", "rounds_spelled": "word word number"},
    "tightened": {"tightened": "sewing"}, "check_spellings": {"shows_spelling": "word", "shows_fewest": "word"},
    "cheapest": {"cheapest": "rims", "in_one": "rims"}, "tubes": {"tube": "word word", "tubes_of": "rims"},
    "check_cheapest": {"shows_cheapest": "rims", "shows_in_one": "rims"},
    "crossed": {"many_crossed": "word", "all_crossed": "word", "crossed_census": "word", "CrossSewing": "word"},
    "squares": {"squares_of": "word", "most_squares": "number", "as_square": "word", "odd_kinds": "word"},
    "square_spelled": {"square_spelled": "crossed", "square_spelled_word": "word", "three_squares": "word word",
                       "squared_ahead": "word word word"},
    "check_squares": {"shows_squares": "word", "shows_square_spelling": "word"},
    "bags": {"is_bag": "rims", "bag_of": "sewing", "Bag": "rims"},
    "bag_changes": {"added": "bag bag", "times": "bag number", "lowest_bag": "bag", "parted_walks": "bag"},
    "built": {"bag_of_rounds": "sewing rims", "built": "bag"}, "check_bags": {"shows_built": "bag"},
    "cutting": {"banded": "word word number", "banded_sewing": "sewing number", "unbanded": "sewing", "cut": "sewing"},
    "walks": {"steps_of": "rims", "simple_walks": "rims"},
    "weights": {"lightest": "rims", "weight_bound": "rims weights"},
    "price": {"price": "rims", "price_word": "word", "handles_at_least": "number number number"},
    "check_price": {"shows_weights": "rims", "shows_price": "rims"},
    "weighings": {"value_of": "weighing word", "value_round": "weighing rims", "walk_values": "weighing bag"},
    "mistakes": {"three_of": "weighing", "mistake_of": "weighing", "bar": "weighing rims"},
    "turnings": {"best_turning": "rims"},
    "check_weighings": {"shows_mistake": "weighing", "shows_bar": "weighing rims", "shows_turned": "rims"},
    "desk_deeds": {"changed": "shelf"}, "desk_asks": {"answer_of": "shelf"},
    "stories": {"parting": "desk desk", "merged": "desk desk"},
}
# Those without a parameter that is told as one of these.
OTHERS = {"checks": "is_integer is_within is_letter is_name is_listed are_integers first_twice", "papers": "fixed",
          "spellings": "product_of", "tightened": "sewing_of", "square_spelled": "square_product", "weighings": "slope",
          "turnings": "turning", "desk_lines": "read_line", "stories": "replay"}


def module_of(name):
    return importlib.import_module("handlerims." + name)


def names_of(file, name):
    """The names of the parameters, as the interface tells them."""
    if name in FUNCTIONS.get(file, {}):
        return FUNCTIONS[file][name].split(" ")
    return CLASSES[file][name]["__init__"].split(" ")[1:]


class Parameters(Case):
    def test_all_functions_stand_here(self):
        for file, names in FUNCTIONS.items():
            here = set(TOLD.get(file, {})) | set(OTHERS.get(file, "").split())
            self.assertEqual({name for name in here if name[0].islower()}, set(names), file)
        files = {name[:-3] for name in os.listdir(FOLDER) if name.endswith(".py")}
        helpers = {"__init__", "errors", "letters", "mating", "needs", "texts", "equations"}
        self.assertEqual(set(FUNCTIONS) | set(CLASSES) | helpers, files)

    def test_the_first_that_is_wrong_is_told(self):
        for file, functions in TOLD.items():
            for name, kinds in functions.items():
                call, names, kinds = getattr(module_of(file), name), names_of(file, name), kinds.split(" ")
                for at, kind in enumerate(kinds):
                    ahead = [KINDS[one][0] for one in kinds[:at]]
                    right, error = KINDS[kind]
                    others = [one for one, _ in KINDS.values() if type(one) is not type(right)]
                    for value in WRONG + tuple(others) + (Odd(),):
                        behind = [value] * (len(names) - at - 1)
                        with self.subTest(name=name, at=at, value=type(value).__name__):
                            self.told(error(names[at]), call, *ahead, value, *behind)
                            self.told(error(names[at]), call, **dict(zip(names, ahead + [value] + behind)))

    def test_methods(self):
        shelf = Shelf([("a", WORD)])
        for call, error in ((WORD.turned, BadNumber("by")), (WORD.then, BadWord("other")),
                            (WORD.times, BadNumber("number")),
                            (lambda value: Word.exchange(value, value), BadWord("one")),
                            (lambda value: Word.exchange(WORD, value), BadWord("other")),
                            (WEIGHING.times, BadNumber("number")), (WEIGHING.added, BadWeighing("other")),
                            (Word, BadWord("letters")), (Rims, BadWord("words")), (Weighing, BadWeighing("rows")),
                            (Shelf, BadDesk("things")), (Word.read, BadText(0, 0)), (Rims.read, BadText(0, 0)),
                            (Weighing.read, BadText(0, 0))):
            for value in WRONG + (Odd(), shelf):
                if isinstance(value, (list, tuple)) and len(value) == 0 and call in (Word, Weighing, Shelf):
                    continue
                if isinstance(value, str) and error.__class__ is BadText:
                    continue
                self.told(error, call, value)


class Values(Case):
    def test_tuples_and_lists_may_stand_for_one_another(self):
        self.assertEqual(Word((1, 2)), Word([1, 2]))
        self.assertEqual(Rims((WORD,)), RING)
        self.assertEqual(Sewing(RING, (2, 3, 0, 1)), SEWING)
        self.assertEqual(Bag(RING, [[[0, 3, 2, 1], 1]]), Bag(RING, (((0, 3, 2, 1), 1),)))
        self.assertEqual(Weighing(((1, 2, 3),)), Weighing([[1, 2, 3]]))
        self.assertEqual(Shelf((("a", WORD),)), Shelf([["a", WORD]]))

    def test_values_of_unlike_classes_are_not_equal(self):
        values = [value for value, _ in KINDS.values()]
        values += [Word([]), Weighing([]), Paper("word"), Denial("word"), None, ()]
        for at, one in enumerate(values):
            for to, other in enumerate(values):
                if type(one) is not type(other):
                    self.assertIs(one == other, False)
                    self.assertIs(one != other, True)
                if at == to:
                    self.assertIs(one == other, True)

    def test_all_papers_are_told_by_small_letters(self):
        seen = 0
        for file, classes in CLASSES.items():
            for name, methods in classes.items():
                made = getattr(module_of(file), name)
                if isinstance(made, type) and issubclass(made, Paper) and file != "papers":
                    many = len(methods["__init__"].split(" ")) - 1
                    paper = made(*range(many))
                    self.assertEqual((paper.word, paper.parts), (name.lower(), tuple(range(many))))
                    self.assertIs(bool(paper), not issubclass(made, Denial))
                    seen += 1
        self.assertEqual(seen, 21)
