from handlerims.desk import Desk
from handlerims.errors import BadDesk, BadLine, BadText, NoName, Nothing, Twice
from handlerims.stories import merged, parting, replay
from handlerims.words import Word
from tests.cases import NO_LISTS, WRONG, Case, Odd
from tests.draws import Draws
from tests.lines import ASK_WORDS, DEED_WORDS, drawn_line
from tests.model import Model, outcome, told_error
from tests.test_desk import LINES, filled

NO_DESKS = (1, filled().shelf, LINES, "names", Desk, Word([1]), [filled()], Odd())


class Replayed(Case):
    def test_told_ones(self):
        desk = filled()
        again = replay(lines=desk.story)
        self.assertIs(type(again), Desk)
        self.assertEqual((again, again.story), (desk, desk.story))
        self.assertEqual([again.undo(), again.undo(), again.redo()], ["round x", "exchange x a b", "exchange x a b"])
        self.assertEqual((replay([]), replay(()).story), (Desk(), ()))
        self.told(Nothing(), replay([]).undo)
        self.told(Nothing(), replay(list(desk.story)).redo)
        self.assertEqual(len(desk.story), 4)

    def test_refused_lines(self):
        for lines, error in ((["word a a", "drop b"], BadLine(1, NoName("b"))),
                             (["word a a"] * 2, BadLine(1, Twice("a"))),
                             (["", "names"], BadLine(0, BadText(0, 0))), (["word a"], BadLine(0, BadText(0, 2))),
                             (["word a a", "word b b", "word c"], BadLine(2, BadText(0, 2)))):
            self.assertEqual(outcome(replay, lines), ("raised", told_error(error)))

    def test_ask_lines_whatever_follows(self):
        for first in ASK_WORDS:
            for rest in ("", " a", " q", " a a", " ", " 1"):
                lines = ["word a a", first + rest, "word a a"]
                self.assertEqual(outcome(replay, lines), ("raised", told_error(BadLine(1, BadText(0, 0)))))

    def test_no_lists_of_strings(self):
        good = "word a a"
        for value in NO_LISTS + (good, [good, None], [good, 5], (good, ["drop a"]), {good: 1}, {good}, iter([good]), 5,
                                 filled(), [filled()], ["drop q", None], [b"word a a"], Odd()):
            # Strings that are no lines are told as refused.
            if isinstance(value, (list, tuple)) and all(isinstance(line, str) for line in value):
                self.assertEqual(outcome(replay, value), ("raised", told_error(BadLine(0, BadText(0, 0)))))
            else:
                self.told(BadDesk("lines"), replay, value)
        for value in WRONG:
            if not isinstance(value, str):
                self.told(BadDesk("lines"), replay, [good, value])


class Parted(Case):
    def test_told_ones(self):
        desk = filled()
        fork = desk.twin()
        self.assertEqual(parting(desk, fork), 4)
        fork("drop b")
        self.assertEqual((parting(desk, fork), parting(fork, desk), parting(one=fork, other=fork)), (4, 4, 5))
        desk("times z b 3")
        self.assertEqual(parting(other=desk, one=fork), 4)
        desk.undo()
        desk.undo()
        self.assertEqual(parting(desk, fork), 3)
        self.assertEqual([parting(Desk(), desk), parting(desk, Desk()), parting(Desk(), Desk())], [0, 0, 0])
        # Lines behind those that are not alike are not counted.
        one, other = replay(["word a a", "word b b", "word c c"]), replay(["word a a", "word x b", "word c c"])
        self.assertEqual(parting(one, other), 1)

    def test_errors_in_order(self):
        for call in (parting, merged):
            for value in (None, Desk(), 5):
                self.wrong_among(lambda desk: call(desk, value), lambda desk: BadDesk("one"), NO_DESKS)
            self.wrong_among(lambda desk: call(Desk(), desk), lambda desk: BadDesk("other"), NO_DESKS)


class Merged(Case):
    def test_told_ones(self):
        desk = filled()
        fork = desk.twin()
        fork("drop b")
        desk("times z b 3")
        both, refused = merged(desk, fork)
        self.assertEqual((both.story, refused), (desk.story + ("drop b",), ()))
        self.assertEqual(both("names"), "a x z")
        both, refused = merged(one=fork, other=desk)
        self.assertEqual((both.story, refused), (fork.story, (4,)))
        self.assertIs(type(merged(desk, fork)), tuple)
        self.assertEqual((desk("names"), fork("names")), ("a b x z", "a x"))

    def test_each_line_as_the_new_desk_stands_then(self):
        one = replay(["word a a", "drop a", "word b b"])
        other = replay(["word a a", "word c c", "then d a c", "drop a", "word b b'", "word a b", "then e a c"])
        both, refused = merged(one, other)
        self.assertEqual(refused, (2, 3, 4))
        self.assertEqual(both("names"), "b c a e")
        self.assertEqual(both.story, ("word a a", "drop a", "word b b", "word c c", "word a b", "then e a c"))
        self.assertEqual([both.undo(), both.undo(), both.redo()], ["then e a c", "word a b", "word a b"])

    def test_what_was_taken_back_is_not_merged(self):
        one, other = filled(), filled()
        one.undo()
        other.told("word n a")
        other.undo()
        both, refused = merged(one, other)
        self.assertEqual((both.story, refused), (filled().story, ()))
        self.told(Nothing(), both.redo)

    def test_drawn_ones(self):
        refused_some = 0
        for start in range(60):
            draws = Draws(1070 + start)
            desks = []
            begin = [drawn_line(draws, DEED_WORDS, ("a", "b", "c", "x")) for _ in range(draws.below(30))]
            for _ in range(2):
                desk = Desk()
                for line in begin + [drawn_line(draws, DEED_WORDS, ("a", "b", "c", "x", "y"))
                                     for _ in range(draws.below(30))]:
                    outcome(desk, line)
                desks.append(desk)
            one, other = desks
            alike = 0
            while one.story[:alike + 1] == other.story[:alike + 1] and alike < min(len(one.story), len(other.story)):
                alike += 1
            self.assertEqual((parting(one, other), parting(other, one)), (alike, alike))
            model, refused = Model(), []
            model.told(*one.story)
            for at in range(alike, len(other.story)):
                if outcome(model.one, other.story[at])[0] == "raised":
                    refused.append(at)
            both, told = merged(one, other)
            self.assertEqual((told, both.story), (tuple(refused), tuple(model.story)))
            self.assertEqual(list(both.shelf.things), model.things())
            self.assertEqual(replay(one.story), one)
            self.assertEqual(replay(both.story), both)
            refused_some += len(refused) > 0
        self.assertGreater(refused_some, 10)
