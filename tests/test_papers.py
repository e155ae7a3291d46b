import unittest
import unittest.mock

from handlerims.built import Built
from handlerims.cheapest import Cheapest, InOne
from handlerims.exchanged import Way
from handlerims.handles import Handles
from handlerims.mistakes import AtLeast, Mistake, NoBar
from handlerims.papers import Denial, Paper, fixed
from handlerims.parted import NotParted, Parted
from handlerims.price import Price
from handlerims.rings import NoRoot, Root
from handlerims.spellings import Spelling
from handlerims.square_spelled import SquareSpelling
from handlerims.squares import Odd, Squares
from handlerims.tubes import NoTube, Tube
from handlerims.turnings import Turned
from handlerims.weights import Weights
from handlerims.words import Word
from tests.cases import WRONG

CLASSES = ((Root, "root", ("root", "here", "there")), (NoRoot, "noroot", ()), (Way, "way", ("pairs",)),
           (Handles, "handles", ("number", "ring", "mates")), (Parted, "parted", ("turn", "x", "y", "z")),
           (NotParted, "notparted", ()), (Spelling, "spelling", ("pairs",)), (Cheapest, "cheapest", ("cost", "mates")),
           (InOne, "inone", ("handles", "mates")), (Tube, "tube", ("turn",)), (NoTube, "notube", ()),
           (Squares, "squares", ("number", "ring", "mates")), (Odd, "odd", ("kind",)),
           (SquareSpelling, "squarespelling", ("words",)), (Built, "built", ("sewing", "words")),
           (Weights, "weights", ("worths", "steps", "by")), (Price, "price", ("top", "bottom", "walks", "weights")),
           (Mistake, "mistake", ("number", "three")), (AtLeast, "atleast", ("top", "bottom")), (NoBar, "nobar", ()),
           (Turned, "turned", ("order", "value")))
DENIALS = ("noroot", "notparted", "notube", "odd", "nobar")


class Papers(unittest.TestCase):
    def test_papers_are_true_and_denials_false(self):
        self.assertIs(bool(Paper("note")), True)
        self.assertIs(bool(Paper("note", 0)), True)
        self.assertIs(bool(Denial("no")), False)
        self.assertIs(bool(Denial("no", 1)), False)
        self.assertTrue(issubclass(Denial, Paper))

    def test_attributes(self):
        note = Paper("note", 1, [2, (3, [4])])
        self.assertEqual((note.word, note.parts), ("note", (1, (2, (3, (4,))))))
        self.assertEqual((Denial("no").word, Denial("no").parts), ("no", ()))
        self.assertEqual(Paper(word="note").parts, ())

    def test_equal_papers(self):
        self.assertTrue(Paper("note", [1]) == Paper("note", (1,)))
        self.assertTrue(Denial("no", 1) == Denial("no", True))
        for one, other in ((Paper("note"), Paper("not")), (Paper("note"), Paper("note", 1)), (Paper("n"), Denial("n")),
                           (Denial("n"), Paper("n")), (Paper("n", 1), Paper("n", 2)), (NoRoot(), NotParted()),
                           (Denial("noroot"), NoRoot()), (NoRoot(), Denial("noroot")), (Paper("way", ()), Way(())),
                           (Denial("n"), Denial("m")), (Denial("n", 1), Denial("n", 2)), (Denial("n"), Denial("n", 1)),
                           (Way(()), Paper("way", ())), (Paper("n"), "n"), (Paper("n"), None), (Way(()), ((),))):
            self.assertIs(one == other, False)
            self.assertIs(one != other, True)

    def test_papers_of_a_class_below_are_not_equal(self):
        class Mine(Way):
            pass
        self.assertFalse(Mine([(0, 4)]) == Way([(0, 4)]))
        self.assertFalse(Way([(0, 4)]) == Mine([(0, 4)]))

    def test_papers_are_not_equal_to_classes_that_are_only_called_so(self):
        for made in (Paper("paper"), Denial("denial"), Way(())):
            stranger = type(type(made).__name__, (), {"word": made.word, "parts": made.parts})()
            self.assertIs(made == stranger, False)
            self.assertIs(made == type(type(made).__name__, (), {})(), False)

    def test_papers_are_not_equal_to_what_agrees_with_all(self):
        self.assertIs(Paper("n") == unittest.mock.ANY, False)

    def test_fixed(self):
        self.assertEqual(repr(fixed([1, [2, ([3], {"a": [4]})], "ab"])), repr((1, (2, ((3,), {"a": [4]})), "ab")))
        self.assertEqual((fixed([]), fixed(()), fixed([[]])), ((), (), ((),)))
        for value in WRONG:
            if not isinstance(value, (list, tuple)):
                self.assertIs(fixed(value), value)

    def test_fixed_of_deep_lists(self):
        deep, answer = [1], (1,)
        for _ in range(40):
            deep, answer = [deep, 2], (answer, 2)
        self.assertEqual(fixed(deep), answer)

    def test_what_is_passed_stays_and_is_copied(self):
        inner = [1, 2]
        given = [inner, 3]
        note = Paper("note", given)
        inner.append(9)
        given.append(9)
        self.assertEqual(note.parts, (((1, 2), 3),))
        self.assertEqual(given, [[1, 2, 9], 3, 9])


class PapersOfTheClasses(unittest.TestCase):
    def test_below_paper_and_denial(self):
        for made, word, _ in CLASSES:
            self.assertTrue(issubclass(made, Paper))
            self.assertIs(issubclass(made, Denial), word in DENIALS)

    def test_parts_by_place_and_by_name(self):
        for made, word, names in CLASSES:
            parts = [[at, [at]] for at, _ in enumerate(names)]
            for paper in (made(*parts), made(**dict(zip(names, parts)))):
                self.assertEqual(paper.word, word)
                self.assertEqual(paper.parts, tuple((at, (at,)) for at, _ in enumerate(names)))
                self.assertEqual([getattr(paper, name) for name in names], list(paper.parts))
                self.assertIs(bool(paper), word not in DENIALS)

    def test_any_parts(self):
        for made, _, names in CLASSES:
            for value in WRONG:
                paper = made(*[value for _ in names])
                for name, part in zip(names, paper.parts):
                    self.assertIs(getattr(paper, name), part)
                    if not isinstance(value, (list, tuple)):
                        self.assertIs(part, value)

    def test_equal_by_words_and_parts(self):
        four = Word([1, 2, -1, -2])
        self.assertTrue(Handles(1, four, [2, 3, 0, 1]) == Handles(1, Word([1, 2, -1, -2]), (2, 3, 0, 1)))
        self.assertFalse(Handles(1, four, [2, 3, 0, 1]) == Handles(1, four, [2, 3, 1, 0]))
        self.assertFalse(Handles(1, four, [2, 3, 0, 1]) == Root(1, four, [2, 3, 0, 1]))
        self.assertTrue(NoRoot() == NoRoot())
