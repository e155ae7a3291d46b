"""Each name of the interface is defined in the file under which it is listed, with its parameters."""

import ast
import os
import unittest

import handlerims

FOLDER = os.path.dirname(handlerims.__file__)

FUNCTIONS = {
    "checks": {"is_integer": "value", "is_within": "value least most", "is_letter": "value", "is_name": "value",
               "is_listed": "value", "are_integers": "value", "first_twice": "values", "common_divisor": "one other",
               "lowest": "top bottom"},
    "papers": {"fixed": "value"},
    "rings": {"turn_to": "one other", "least_turned": "word", "root_of": "word", "go_past": "one other",
              "common_root": "one other"},
    "renamed": {"renamed": "word pairs", "put": "word kind other"},
    "balance": {"balance": "word", "is_balanced": "word"},
    "sewings": {"all_sewings": "rims", "census": "rims", "many_sewings": "rims"},
    "exchanged": {"exchanged": "sewing place other", "way": "sewing other", "way_between": "sewing other",
                  "with_pair": "sewing place letter", "without_pair": "sewing place"},
    "check_sewings": {"shows_way": "sewing other value"},
    "handles": {"handles_of": "word", "rounds_of_exchange": "times", "most_for_rounds": "handles times"},
    "parted": {"parted": "word"},
    "ring_lists": {"balanced_rings": "kinds letters", "rings_with": "kinds letters handles"},
    "check_handles": {"shows_handles": "word value", "shows_parted": "word value"},
    "spellings": {"product_of": "pairs", "undone": "spelling", "moved": "spelling word",
                  "put_in": "spelling kind word"},
    "spelled": {"spelled": "sewing", "spelled_word": "word", "rounds_spelled": "one other times"},
    "tightened": {"sewing_of": "pairs", "tightened": "sewing"},
    "check_spellings": {"shows_spelling": "word value", "shows_fewest": "word value"},
    "cheapest": {"cheapest": "rims", "in_one": "rims"},
    "tubes": {"tube": "one other", "tubes_of": "rims"},
    "check_cheapest": {"shows_cheapest": "rims value", "shows_in_one": "rims value"},
    "crossed": {"many_crossed": "word", "all_crossed": "word", "crossed_census": "word"},
    "squares": {"squares_of": "word", "most_squares": "handles", "as_square": "word", "odd_kinds": "word"},
    "square_spelled": {"square_product": "words", "square_spelled": "sewing", "square_spelled_word": "word",
                       "three_squares": "one other", "squared_ahead": "square one other"},
    "check_squares": {"shows_squares": "word value", "shows_square_spelling": "word value"},
    "bags": {"is_bag": "rims walks", "bag_of": "sewing"},
    "bag_changes": {"added": "one other", "times": "bag number", "lowest_bag": "bag", "parted_walks": "bag"},
    "built": {"bag_of_rounds": "sewing rims words", "built": "bag"},
    "check_bags": {"shows_built": "bag value"},
    "walks": {"steps_of": "rims", "simple_walks": "rims"},
    "weights": {"lightest": "rims numbers", "weight_bound": "rims weights"},
    "price": {"price": "rims", "price_word": "word", "handles_at_least": "top bottom rounds"},
    "check_price": {"shows_weights": "rims value", "shows_price": "rims value"},
    "weighings": {"slope": "pairs", "value_of": "weighing word", "value_round": "weighing rims",
                  "walk_values": "weighing bag"},
    "mistakes": {"three_of": "weighing x y z", "mistake_of": "weighing kinds", "bar": "weighing rims"},
    "turnings": {"turning": "order", "best_turning": "rims"},
    "check_weighings": {"shows_mistake": "weighing kinds value", "shows_bar": "weighing rims value",
                        "shows_turned": "rims value"},
    "desk_lines": {"read_line": "line"},
    "desk_deeds": {"changed": "shelf line"},
    "desk_asks": {"answer_of": "shelf line"},
    "stories": {"replay": "lines", "parting": "one other", "merged": "one other"},
    "cutting": {"banded": "one other kind", "banded_sewing": "sewing kind", "unbanded": "sewing place",
                "cut": "sewing place other"},
}
CLASSES = {
    "papers": {"Paper": {"__init__": "self word *parts", "__eq__": "self other"},
               "Denial": {"__init__": "self word *parts", "__eq__": "self other"}},
    "words": {"Word": {"__init__": "self letters", "__len__": "self", "__eq__": "self other", "__str__": "self",
                       "contrary": "self", "shortened": "self", "shortened_round": "self", "turned": "self by",
                       "then": "self other", "times": "self number", "many_of": "self letter",
                       "exchange": "one other", "read": "text"}},
    "rings": {"Root": {"__init__": "self root here there"}, "NoRoot": {"__init__": "self"}},
    "rims": {"Rims": {"__init__": "self words", "__eq__": "self other", "__str__": "self", "next": "self place",
                      "rim_of": "self place", "read": "text"}},
    "sewings": {"Sewing": {"__init__": "self rims mates", "__eq__": "self other"}},
    "exchanged": {"Way": {"__init__": "self pairs"}},
    "handles": {"Handles": {"__init__": "self number ring mates"}},
    "parted": {"Parted": {"__init__": "self turn x y z"}, "NotParted": {"__init__": "self"}},
    "spellings": {"Spelling": {"__init__": "self pairs"}},
    "cheapest": {"Cheapest": {"__init__": "self cost mates"}, "InOne": {"__init__": "self handles mates"}},
    "tubes": {"Tube": {"__init__": "self turn"}, "NoTube": {"__init__": "self"}},
    "crossed": {"CrossSewing": {"__init__": "self word mates", "__eq__": "self other"}},
    "squares": {"Squares": {"__init__": "self number ring mates"}, "Odd": {"__init__": "self kind"}},
    "square_spelled": {"SquareSpelling": {"__init__": "self words"}},
    "bags": {"Bag": {"__init__": "self rims walks", "__eq__": "self other"}},
    "built": {"Built": {"__init__": "self sewing words"}},
    "weights": {"Weights": {"__init__": "self worths steps by"}},
    "price": {"Price": {"__init__": "self top bottom walks weights"}},
    "weighings": {"Weighing": {"__init__": "self rows", "__eq__": "self other", "__str__": "self",
                               "at": "self first second", "times": "self number", "added": "self other",
                               "read": "text"}},
    "mistakes": {"Mistake": {"__init__": "self number three"}, "AtLeast": {"__init__": "self top bottom"},
                 "NoBar": {"__init__": "self"}},
    "turnings": {"Turned": {"__init__": "self order value"}},
    "shelves": {"Shelf": {"__init__": "self things", "__eq__": "self other", "word": "self name", "rims": "self name",
                          "weighing": "self name"}},
    "desk": {"Desk": {"__init__": "self", "__eq__": "self other", "__len__": "self", "__contains__": "self x",
                      "__call__": "self line", "told": "self *lines", "tried": "self *lines", "undo": "self",
                      "redo": "self", "twin": "self"}},
}


def body_of(name):
    with open(os.path.join(FOLDER, name + ".py"), encoding="ascii") as text:
        return ast.parse(text.read()).body


def parameters(function):
    told = function.args
    names = [one.arg for one in told.args]
    return " ".join(names + (["*" + told.vararg.arg] if told.vararg else []))


def defined(body, kind):
    return {one.name: one for one in body if isinstance(one, kind)}


class Interface(unittest.TestCase):
    def test_functions(self):
        for file, told in FUNCTIONS.items():
            found = defined(body_of(file), ast.FunctionDef)
            for name, names in told.items():
                with self.subTest(file=file, name=name):
                    self.assertEqual(parameters(found[name]), names)
                    self.assertEqual(found[name].args.defaults, [])

    def test_classes_and_their_own_methods(self):
        for file, told in CLASSES.items():
            found = defined(body_of(file), ast.ClassDef)
            for name, methods in told.items():
                own = defined(found[name].body, ast.FunctionDef)
                for method, names in methods.items():
                    with self.subTest(file=file, name=name, method=method):
                        self.assertEqual(parameters(own[method]), names)
