from handlerims.desk_asks import answer_of
from handlerims.errors import (BadDesk, BadText, BadWord, Impossible, Misfit, NoName, TooMany, Unbalanced)
from handlerims.handles import handles_of
from handlerims.rims import Rims
from handlerims.sewings import census
from handlerims.shelves import Shelf
from handlerims.spelled import spelled_word
from handlerims.spellings import product_of
from handlerims.squares import Odd as OddKind
from handlerims.turnings import turning
from handlerims.weighings import Weighing
from handlerims.words import Word
from tests.cases import WRONG, Case, Odd, rims
from tests.draws import Draws
from tests.lines import ASK_WORDS, DEED_WORDS, drawn_line, drawn_order_line
from tests.model import Model, outcome
from tests.test_desk_deeds import NO_SHELVES
from tests.test_shelves import FULL, LOOP
from tests.test_weighings import RING

SHELF = Shelf(FULL)
THINGS = (("l", LOOP), ("t", LOOP.times(3)), ("e", Word([])), ("a", Word([1])), ("s", Word.read("a b b' a a")),
          ("k", Word.read("c a b a' b' c'")), ("m", Word.read("a b' a' b")), ("r", RING), ("p", rims("a b / b' a'")),
          ("x", rims("a b a' a' b a b' b'")), ("q", rims("a a'")), ("six", rims("a' a' a' b' a b a b' a b")),
          ("w", turning([1, -2, -1, 2])), ("v", Weighing([(1, 2, 10 ** 70), (-1, -2, -1)])), ("f", Weighing([])))


class Asks(Case):
    def test_told_ones(self):
        shelf = Shelf(THINGS)
        for line, answer in (
                ("names", "l t e a s k m r p x q six w v f"), ("show l", "word a b a' b'"), ("show e", "word -"),
                ("show p", "rims a b / b' a'"), ("show f", "weighing -"),
                ("show v", "weighing b' a' -1" + "0" * 70 + " / a' b' -1"), ("root t", "3 a b a' b'"),
                ("root l", "1 a b a' b'"), ("root a", "1 a"), ("census r", "1=1"), ("census p", "0=1"),
                ("census q", "-1=1"), ("census x", " ".join("{}={}".format(*row) for row in census(THINGS[9][1]))),
                ("handles l", "1"), ("handles t", "2"), ("handles e", "0"), ("handles k", "1"), ("parted l", "parted"),
                ("parted t", "notparted"), ("parted e", "parted"), ("spelled e", "-"), ("cheapest r", "1"),
                ("cheapest p", "0"), ("cheapest q", "-1"), ("tube l m", "tube"), ("tube l t", "notube"),
                ("tube a k", "notube"), ("squares l", "3"), ("squares e", "0"), ("price r", "1/2"),
                ("price p", "0/1"), ("price six", "5/6"), ("value w r", "8"), ("value f r", "0"),
                ("value v r", answer_by_neighbours(THINGS[13][1], RING)), ("bar w r", "1/2"), ("bar f r", "nobar")):
            self.assertEqual(answer_of(shelf, line), answer, line)
        self.assertEqual(answer_of(line="names", shelf=Shelf()), "-")

    def test_spelled_words(self):
        shelf = Shelf(THINGS)
        for name, word in THINGS[:7]:
            if name in ("a", "s"):
                continue
            answer = answer_of(shelf, "spelled " + name)
            pairs = [] if answer == "-" else [[Word.read(part) for part in pair.split(" : ")]
                                              for pair in answer.split(" / ")]
            self.assertEqual(len(pairs), handles_of(word).number)
            self.assertEqual(product_of(pairs), word.shortened())
            self.assertEqual(tuple(map(tuple, pairs)), spelled_word(word).pairs)
        self.assertEqual(answer_of(shelf, "spelled l").count(":"), 1)
        self.assertEqual(answer_of(shelf, "spelled t").count(" / "), 1)

    def test_an_empty_word_in_a_pair(self):
        # Where a pair with an empty word comes, it is told by a minus sign.
        seen = 0
        draws = Draws(1000)
        for _ in range(200):
            word = Word(draws.balanced(1 + draws.below(5), 2))
            answer = answer_of(Shelf([("w", word)]), "spelled w")
            told = [" : ".join(str(part) for part in pair) for pair in spelled_word(word).pairs]
            self.assertEqual(answer, " / ".join(told) or "-")
            seen += answer == "-"
        self.assertGreater(seen, 5)

    def test_large_numbers(self):
        many = 10 ** 5000
        shelf = Shelf([("v", Weighing([(1, 2, many)])), ("r", RING)])
        self.assertEqual(answer_of(shelf, "value v r"), "1" + "0" * 5000)
        self.assertEqual(answer_of(shelf, "show v"), "weighing b' a' -1" + "0" * 5000)
        self.assertEqual(answer_of(shelf, "bar v r"), "1/4")

    def test_drawn_shelves_against_the_functions(self):
        asked, refused = {}, {}
        for start in range(25):
            draws = Draws(1001 + start)
            model = Model()
            for _ in range(40):
                line = drawn_line(draws, ("word", "word", "word", "rims", "exchange", "times", "then"))
                if draws.below(6) == 0:
                    line = drawn_order_line(draws, draws.one_of(["v", "v2", "w1"]), 1 + draws.below(3))
                outcome(model.one, line)
                if draws.below(4) == 0:
                    balanced = " ".join(str(Word([letter])) for letter in draws.balanced(1 + draws.below(4), 2))
                    outcome(model.told, "word tmp " + balanced, "rims " + draws.one_of(["r", "r2", "show"]) + " tmp",
                            "drop tmp")
                    outcome(model.told, "word tmp a b a' b'", "rims r tmp", "drop tmp")
                    outcome(model.one, drawn_order_line(draws, "v", 2))
                    outcome(model.one, "word " + draws.one_of(["a", "b", "z"]) + " " + balanced)
            shelf = Shelf(model.things())
            for count in range(120):
                line = drawn_line(draws, ASK_WORDS)
                if count < 20:
                    line = draws.one_of(["bar", "value"]) + draws.one_of([" v", " v2"]) + draws.one_of([" r", " r2"])
                wanted = outcome(model.one, line)
                found = outcome(answer_of, shelf, line)
                if wanted[0] == "raised" and wanted[1][0] is Impossible:
                    self.assertEqual((found[1][0], found[1][1][0]), (Impossible, wanted[1][1][0]))
                else:
                    self.assertEqual(found, wanted)
                (asked if wanted[0] == "returned" else refused)[line.split(" ")[0]] = True
        self.assertEqual(sorted(asked), sorted(ASK_WORDS))
        self.assertEqual(sorted(refused), sorted(set(ASK_WORDS) - {"names"}))


def answer_by_neighbours(weighing, some):
    return str(sum(weighing.at(letter, some.letters[some.next(place)]) for place, letter in enumerate(some.letters)))


class Refused(Case):
    def test_wrong_shelves(self):
        for line in (None, "names", "drop l", 5, ""):
            self.wrong_among(lambda value: answer_of(value, line), lambda value: BadDesk("shelf"), NO_SHELVES)

    def test_deed_lines_whatever_follows(self):
        for first in DEED_WORDS:
            for rest in ("", " n l", " l", " nothing", " ", " 1"):
                self.told(BadText(0, 0), answer_of, SHELF, first + rest)
        for line in WRONG + (5, "", "x", "x l", ["names"], "Names"):
            self.told(BadText(0, 0), answer_of, SHELF, line)

    def test_names_then_kinds(self):
        for line, error in (
                ("names l", BadText(0, 1)), ("show", BadText(0, 1)), ("show l l", BadText(0, 2)),
                ("show X", BadText(0, 1)), ("show x", NoName("x")), ("root x", NoName("x")),
                ("root r", Misfit("kinds")), ("root w", Misfit("kinds")),
                ("census l", Misfit("kinds")), ("census x", NoName("x")), ("handles r", Misfit("kinds")),
                ("parted w", Misfit("kinds")), ("spelled r", Misfit("kinds")), ("cheapest l", Misfit("kinds")),
                ("tube l r", Misfit("kinds")), ("tube r x", NoName("x")), ("tube x y", NoName("x")),
                ("tube y x", NoName("y")), ("squares w", Misfit("kinds")), ("price l", Misfit("kinds")),
                ("price w", Misfit("kinds")), ("value r w", Misfit("kinds")), ("value w l", Misfit("kinds")),
                ("value r x", NoName("x")), ("value x r", NoName("x")), ("value l x", NoName("x")),
                ("bar w w", Misfit("kinds")), ("bar l r", Misfit("kinds")), ("bar w x", NoName("x"))):
            self.told(error, answer_of, SHELF, line)

    def test_errors_of_what_is_asked(self):
        large = Rims([Word([1] * 7), Word([-1] * 7)])
        shelf = Shelf([("e", Word([])), ("u", Word.read("b b a")), ("o", Word.read("b a b a a")), ("g", large),
                       ("q", rims("a a'")), ("v", Weighing([(1, 2, 1)])), ("n", Word([1, -1])), ("l", LOOP),
                       ("five", Rims([Word([1] * 5), Word([-1] * 5)])), ("h", Word([1, 2, -1, -2] * 13)),
                       ("y", Word([1, 2] * 9))])
        for line, error in (
                ("root e", BadWord("word")), ("census g", TooMany("sewings", 720)),
                ("cheapest g", TooMany("sewings", 720)),
                ("handles u", Unbalanced(1)), ("handles h", TooMany("letters", 24)), ("parted u", Unbalanced(1)),
                ("parted h", TooMany("letters", 48)), ("spelled u", Unbalanced(1)),
                ("spelled h", TooMany("letters", 24)),
                ("tube e l", Misfit("empty")), ("tube l n", Misfit("empty")), ("squares y", TooMany("letters", 16)),
                ("price q", Misfit("short")), ("price g", TooMany("letters", 10)),
                ("price five", TooMany("walks", 150)),
                ("bar v q", Misfit("short"))):
            self.told(error, answer_of, shelf, line)
        with self.assertRaises(Impossible) as caught:
            answer_of(shelf, "squares o")
        self.assertEqual(caught.exception.paper, OddKind(1))
