from handlerims.desk import Desk
from handlerims.errors import BadLine, BadText, Misfit, NoName, Nothing, Twice
from handlerims.shelves import Shelf
from handlerims.words import Word
from tests.cases import WRONG, Case, Odd
from tests.draws import Draws
from tests.lines import ASK_WORDS, DEED_WORDS, drawn_line, drawn_order_line
from tests.model import Model, outcome, told_error
from tests.test_weighings import LIGHT, RING

LINES = ("word a a b", "word b b'", "exchange x a b", "handles x", "round x", "show x")


def filled():
    desk = Desk()
    desk.told(*LINES)
    return desk


class Told(Case):
    def same_error(self, error, call, *given):
        """Check that the call raises such an error, errors that it keeps told likewise."""
        found = outcome(call, *given)
        self.assertEqual(found, ("raised", told_error(error)))

    def test_a_new_one(self):
        desk = Desk()
        self.assertEqual((desk.shelf, desk.story, len(desk)), (Shelf(), (), 0))
        self.assertEqual((desk.told(), desk.tried(), desk("names")), ((), (), "-"))

    def test_told_lines(self):
        desk = Desk()
        self.assertEqual(desk.told(*LINES), ("2", "1", "6", "1", "a b' a' b", "word a b' a' b"))
        self.assertEqual(desk.story, ("word a a b", "word b b'", "exchange x a b", "round x"))
        self.assertEqual(desk.shelf.names, ("a", "b", "x"))
        self.assertEqual(desk.shelf.word("x"), Word.read("a b' a' b"))
        self.assertEqual(desk("times y x 2"), "8")
        self.assertEqual(len(desk), 4)
        self.assertEqual(desk(line="names"), "a b x y")
        self.assertIs(type(desk.story), tuple)

    def test_a_refused_line_leaves_all_as_before(self):
        desk = filled()
        before = (desk.shelf, desk.story)
        for lines, error in ((("drop a", "then y b a"), BadLine(1, NoName("a"))),
                             (("drop q",), BadLine(0, NoName("q"))), (("",), BadLine(0, BadText(0, 0))),
                             (("drop a", "names", "drop b", "show"), BadLine(3, BadText(0, 1))),
                             (("word n a", "word n a"), BadLine(1, Twice("n"))), (("rims r x", "turn r 1"),
                                                                                   BadLine(1, Misfit("kinds"))),
                             (("drop a", None), BadLine(1, BadText(0, 0))), ((5,), BadLine(0, BadText(0, 0)))):
            self.same_error(error, desk.told, *lines)
            self.same_error(error, desk.tried, *lines)
            self.assertEqual((desk.shelf, desk.story), before)
        self.same_error(NoName("q"), desk, "drop q")
        self.same_error(BadText(0, 0), desk, "undo")
        self.assertEqual((desk.shelf, desk.story), before)

    def test_any_values_for_lines(self):
        desk = filled()
        for value in WRONG + (5, ["names"], Odd(), Word([1]), LIGHT, RING, desk, b"names"):
            self.same_error(BadText(0, 0), desk, value)
            self.same_error(BadLine(0, BadText(0, 0)), desk.told, value)
            self.same_error(BadLine(2, BadText(0, 0)), desk.told, "names", "drop a", value, "names")
            self.same_error(BadLine(1, BadText(0, 0)), desk.tried, "names", value)
        self.assertEqual(desk, filled())

    def test_tried_lines(self):
        desk = filled()
        self.assertEqual(desk.tried("drop a", "names", "word a b", "then n a b"), ("2", "b x", "1", "2"))
        self.assertEqual((desk, desk.story), (filled(), filled().story))
        self.assertEqual(desk.undo(), "round x")
        self.assertEqual(desk.tried("drop b"), ("2",))
        self.assertEqual(desk.redo(), "round x")

    def test_in_and_len(self):
        desk = filled()
        self.assertEqual([name in desk for name in ("a", "b", "x", "y", "A", "", "names")], [True] * 3 + [False] * 4)
        desk("rims r x")
        desk("weigh w a a'")
        self.assertTrue("r" in desk and "w" in desk)
        for value in WRONG + (5, ["a"], ("a",), Word([1]), b"a", RING, desk):
            self.assertIs(value in desk, isinstance(value, str) and value == "a")
        self.assertEqual(len(desk), 5)
        self.assertIs(type("a" in desk), bool)

    def test_equal(self):
        desk = filled()
        other = Desk()
        # The same things by other lines, and with another story.
        other.told("word a a b", "word b b'", "word x a b' a' b")
        self.assertTrue(desk == other)
        self.assertFalse(desk != other)
        other("turn x 1")
        self.assertIs(desk == other, False)
        other("turn x -1")
        self.assertIs(desk == other, True)
        for value in (None, desk.shelf, desk.story, Shelf(), LINES, 3):
            self.assertIs(desk == value, False)
        swapped = Desk()
        swapped.told("word b b'", "word a a b", "word x a b' a' b")
        self.assertIs(desk == swapped, False)


class TakenBack(Case):
    def test_undo_and_redo(self):
        desk = filled()
        self.assertEqual([desk.undo(), desk("show x"), desk.redo(), desk("show x")],
                         ["round x", "word a b b' b' a' b", "round x", "word a b' a' b"])
        self.assertEqual([desk.undo() for _ in range(4)], ["round x", "exchange x a b", "word b b'", "word a a b"])
        self.assertEqual((desk.shelf, desk.story), (Shelf(), ()))
        self.assertEqual([desk.redo() for _ in range(4)], ["word a a b", "word b b'", "exchange x a b", "round x"])
        self.assertEqual((desk, desk.story), (filled(), filled().story))

    def test_nothing(self):
        desk = Desk()
        for call in (desk.undo, desk.redo):
            self.told(Nothing(), call)
        desk("word a a")
        self.told(Nothing(), desk.redo)
        desk.undo()
        self.told(Nothing(), desk.undo)
        desk.redo()
        self.told(Nothing(), desk.redo)
        self.assertEqual(desk.story, ("word a a",))

    def test_taken_out_things_come_back_where_they_stood(self):
        desk = filled()
        for name, left in (("a", "b x"), ("b", "a x"), ("x", "a b")):
            desk("drop " + name)
            self.assertEqual(desk("names"), left)
            self.assertEqual(desk.undo(), "drop " + name)
            self.assertEqual(desk("names"), "a b x")
            self.assertEqual(desk, filled())

    def test_redo_behind_what_is_asked_tried_and_refused(self):
        desk = filled()
        desk.undo()
        desk("names")
        desk.told("show x", "handles x")
        desk.tried("drop a")
        for line in ("drop q", "show", "", None, "word a a", "turn q 1"):
            outcome(desk, line)
            outcome(desk.told, line)
            outcome(desk.told, "word n a", "drop n", line)
            outcome(desk.tried, "drop a", line)
        self.assertEqual(desk.redo(), "round x")

    def test_no_redo_behind_a_deed(self):
        # One that changes nothing is a deed, too.
        for line in ("word n a", "turn x 0", "shorten b", "drop a"):
            for call in (lambda desk: desk(line), lambda desk: desk.told(line), lambda desk: desk.told("names", line)):
                desk = filled()
                desk.undo()
                desk.undo()
                desk.redo()
                call(desk)
                self.told(Nothing(), desk.redo)
                self.assertEqual(desk.undo(), line)
                self.assertEqual(desk.redo(), line)

    def test_deeds_that_change_nothing_are_taken_back(self):
        desk = filled()
        desk.told("turn x 0", "turn x 4", "round x", "shorten b", "put b z a")
        self.assertEqual(desk.story[-5:], ("turn x 0", "turn x 4", "round x", "shorten b", "put b z a"))
        self.assertEqual(desk, filled())
        self.assertEqual([desk.undo() for _ in range(6)],
                         ["put b z a", "shorten b", "round x", "turn x 4", "turn x 0", "round x"])

    def test_what_was_taken_back_leaves_no_trace(self):
        desk = filled()
        desk.undo()
        desk("word n a")
        self.assertEqual(desk.story, ("word a a b", "word b b'", "exchange x a b", "word n a"))
        other = Desk()
        other.told(*desk.story)
        self.assertEqual((desk, desk.story), (other, other.story))


class Twins(Case):
    def test_a_twin_is_in_all_as_the_desk(self):
        desk = filled()
        desk.undo()
        desk.undo()
        twin = desk.twin()
        self.assertIs(type(twin), Desk)
        self.assertEqual((twin == desk, twin.shelf, twin.story), (True, desk.shelf, desk.story))
        self.assertEqual([twin.redo(), twin.redo()], ["exchange x a b", "round x"])
        self.told(Nothing(), twin.redo)
        self.assertEqual(desk.redo(), "exchange x a b")

    def test_neither_changes_the_other(self):
        desk = filled()
        twin = desk.twin()
        twin("drop a")
        desk("word n a")
        self.assertEqual((desk("names"), twin("names")), ("a b x n", "b x"))
        self.assertEqual((desk.undo(), twin.undo()), ("word n a", "drop a"))
        twin.undo()
        self.assertEqual((desk("show x"), twin("show x")), ("word a b' a' b", "word a b b' b' a' b"))
        third = twin.twin()
        third.redo()
        self.assertEqual((third.story, len(twin.story)), (desk.story, 3))


class Drawn(Case):
    def test_long_rows_of_lines_against_a_model(self):
        seen = {}
        for start in range(25):
            draws = Draws(1040 + start)
            pairs = [(Desk(), Model())]
            for _ in range(150):
                desk, model = draws.one_of(pairs)
                lines = [self.drawn(draws) for _ in range(1 + draws.below(3))]
                ways = ("one", "one", "one", "told", "told", "tried", "undo", "undo", "redo", "redo", "twin")
                way = draws.one_of(ways)
                if way == "one":
                    found, wanted = outcome(desk, lines[0]), outcome(model.one, lines[0])
                elif way in ("undo", "redo"):
                    found, wanted = outcome(getattr(desk, way)), outcome(getattr(model, way))
                elif way == "twin":
                    if len(pairs) < 4:
                        pairs.append((desk.twin(), model.twin()))
                    continue
                else:
                    found, wanted = outcome(getattr(desk, way), *lines), outcome(getattr(model, way), *lines)
                self.assertEqual(found, wanted)
                seen[way, wanted[0]] = True
                for one, other in pairs:
                    self.assertEqual(list(one.shelf.things), other.things())
                    self.assertEqual((one.story, len(one)), (tuple(other.story), len(other.rows)))
                self.assertIs(pairs[0][0] == pairs[-1][0], pairs[0][1].things() == pairs[-1][1].things())
        for way in ("one", "told", "tried", "undo", "redo"):
            for end in ("returned", "raised"):
                self.assertIn((way, end), seen)

    def drawn(self, draws):
        names = ("a", "b", "c", "r", "v", "x")
        if draws.below(12) == 0:
            return drawn_order_line(draws, "v", 1 + draws.below(3))
        firsts = draws.one_of([DEED_WORDS, DEED_WORDS, ("word", "word", "drop"),
                               ("names", "show", "root", "handles", "parted")])
        line = drawn_line(draws, firsts, names)
        self.assertIn(line.split(" ")[0], DEED_WORDS + ASK_WORDS)
        return line if draws.below(15) else line + draws.one_of([" ", " a a a a", "'"])
