from handlerims.desk_asks import answer_of
from handlerims.desk_deeds import changed
from handlerims.errors import (BadDesk, BadText, BadWeighing, BadWord, Misfit, NoName, TooMany, Twice, Unbalanced)
from handlerims.shelves import Shelf
from handlerims.turnings import turning
from handlerims.weighings import Weighing
from handlerims.words import Word
from tests.cases import WRONG, Case, Odd, rims
from tests.draws import Draws
from tests.lines import ASK_WORDS, DEED_WORDS, drawn_line, drawn_order_line
from tests.model import Model, outcome
from tests.test_shelves import FULL, LOOP
from tests.test_weighings import RING

SHELF = Shelf(FULL)
NO_SHELVES = (1, FULL, {}, LOOP, RING, "l", [SHELF], Odd())


class Deeds(Case):
    def check(self, line, things, answer, shelf=SHELF):
        """Check the shelf and the answer that a line gives."""
        later, said = changed(shelf, line)
        self.assertIs(type(later), Shelf)
        self.assertEqual(later.things, tuple(things))
        self.assertEqual(later.names, tuple(name for name, _ in things))
        self.assertEqual(said, answer)

    def test_new_things(self):
        for line, thing, answer in (
                ("word n a b'", Word([1, -2]), "2"), ("word n -", Word([]), "0"), ("word n a a'", Word([1, -1]), "2"),
                ("exchange n l l", Word.read("a b a' b' a b a' b' b a b' a' b a b' a'"), "16"),
                ("exchange n e l", Word.read("a b a' b' b a b' a'"), "8"),
                ("then n l e", LOOP, "4"), ("then n l l", LOOP.times(2), "8"), ("times n l 3", LOOP.times(3), "12"),
                ("times n l -1", LOOP.contrary(), "4"), ("times n l 0", Word([]), "0"),
                ("times n e " + "9" * 60, Word([]), "0"), ("rims n l", RING, "2"),
                ("rims n l l l l", rims("a b a' b' / a b a' b' / a b a' b' / a b a' b'"), "8"),
                ("weigh n a b a' b'", turning([1, 2, -1, -2]), "4"), ("weigh n z z'", Weighing([]), "0"),
                ("weigh word a a' b b'", turning([1, -1, 2, -2]), "4")):
            self.check(line, FULL + ((line.split(" ")[1], thing),), answer)
        self.check("word n a", (("n", Word([1])),), "1", Shelf())
        self.assertEqual(changed(line="word n a", shelf=Shelf())[1], "1")
        self.assertIs(type(changed(SHELF, "word n a")), tuple)

    def test_changed_words_keep_their_place(self):
        things = (("x", LOOP), ("l", Word.read("b a a' b' c b")), ("e", Word([])))
        shelf = Shelf(things)
        for line, name, word in (
                ("turn l 1", "l", "a a' b' c b b"), ("turn l -1", "l", "b b a a' b' c"),
                ("turn l 6", "l", "b a a' b' c b"),
                ("turn l " + "1" + "0" * 59, "l", str(Word.read("b a a' b' c b").turned(10 ** 59))),
                ("turn e 5", "e", "-"), ("contrary l", "l", "b' c' b a a' b'"), ("contrary e", "e", "-"),
                ("shorten l", "l", "c b"), ("round l", "l", "c b"), ("shorten x", "x", "a b a' b'"),
                ("put x a l", "x", "b a a' b' c b b b' c' b a a' b' b'"), ("put x a e", "x", "b b'"),
                ("put x c l", "x", "a b a' b'"), ("put x b x", "x", "a a b a' b' a' b a b' a'"),
                ("put e a l", "e", "-")):
            wanted = tuple((one, Word.read(word) if one == name else thing) for one, thing in things)
            self.check(line, wanted, word, shelf)
        self.check("round l", (("l", Word.read("a")),), "a", Shelf([("l", Word.read("b a b'"))]))
        self.check("shorten l", (("l", Word.read("b a b'")),), "b a b'", Shelf([("l", Word.read("b a b'"))]))

    def test_things_taken_out(self):
        for at, (name, _) in enumerate(FULL):
            self.check("drop " + name, FULL[:at] + FULL[at + 1:], "3")
        self.check("drop l", (), "0", Shelf([("l", LOOP)]))

    def test_the_shelf_stays(self):
        for line in ("word n a", "contrary l", "drop w", "rims n l", "turn l 1"):
            changed(SHELF, line)
            self.assertEqual((SHELF.things, SHELF.names), (FULL, ("l", "r", "w", "e")))

    def test_what_is_made_stays_when_its_words_change(self):
        shelf = Shelf([("l", LOOP)])
        for line in ("rims r l", "then t l l", "contrary l", "drop l"):
            shelf = changed(shelf, line)[0]
        self.assertEqual(shelf.things, (("r", RING), ("t", LOOP.times(2))))


class Refused(Case):
    def test_wrong_shelves(self):
        for line in (None, "word n a", "names", 5, ""):
            self.wrong_among(lambda value: changed(value, line), lambda value: BadDesk("shelf"), NO_SHELVES)

    def test_ask_lines_whatever_follows(self):
        for first in ASK_WORDS:
            for rest in ("", " l", " l l", " nothing", " ", " 1"):
                self.told(BadText(0, 0), changed, SHELF, first + rest)
        for line in WRONG + (5, "", "x", "x l", ["drop l"]):
            self.told(BadText(0, 0), changed, SHELF, line)

    def test_lines_that_are_none(self):
        for line, item in (("drop", 1), ("drop x y", 2), ("put l a' l", 2), ("times n x 01", 3), ("word l", 2),
                           ("word l a b -", 4), ("drop L", 1), ("turn r", 2), ("rims l", 2), ("then l x", 3)):
            self.told(BadText(0, item), changed, SHELF, line)

    def test_names_then_kinds_then_new(self):
        for line, error in (
                ("exchange l x y", NoName("x")), ("exchange l r y", NoName("y")), ("exchange l r l", Misfit("kinds")),
                ("exchange l l r", Misfit("kinds")), ("exchange l l l", Twice("l")), ("exchange n y x", NoName("y")),
                ("then n x r", NoName("x")), ("then n r x", NoName("x")), ("then r l w", Misfit("kinds")),
                ("then r l l", Twice("r")), ("times l x 3", NoName("x")), ("times l r 3", Misfit("kinds")),
                ("times l l 500", Twice("l")), ("times n l 126", TooMany("letters", 500)),
                ("times n l " + "9" * 60, TooMany("letters", 500)), ("rims w l r x", NoName("x")),
                ("rims w l r", Misfit("kinds")), ("rims w l l", Twice("w")), ("rims n l e", BadWord("words")),
                ("rims n l l l l l", BadWord("words")), ("rims w l l l l l", Twice("w")), ("rims n n", NoName("n")),
                ("weigh w a", Twice("w")), ("weigh n a", BadWeighing("order")), ("weigh n a b", BadWeighing("order")),
                ("weigh n a a' a", BadWeighing("order")), ("word r a", Twice("r")), ("turn x 3", NoName("x")),
                ("turn r 3", Misfit("kinds")), ("contrary w", Misfit("kinds")), ("shorten r", Misfit("kinds")),
                ("round x", NoName("x")), ("round w", Misfit("kinds")), ("put x a r", NoName("x")),
                ("put r a x", NoName("x")), ("put r a l", Misfit("kinds")), ("put l a w", Misfit("kinds")),
                ("drop x", NoName("x")), ("word l " + "a " * 499 + "a", Twice("l"))):
            self.told(error, changed, SHELF, line)
        self.assertEqual(SHELF.things, FULL)

    def test_errors_of_what_is_asked(self):
        shelf = Shelf([("a", Word([1])), ("c", Word([3, 1])), ("l", Word([1] * 300)), ("m", Word([2] * 250)),
                       ("q", Word([1] * 13)), ("p", Word([-1] * 13))])
        for line, error in (("then n l l", TooMany("letters", 500)), ("exchange n l m", TooMany("letters", 500)),
                            ("times n l 2", TooMany("letters", 500)), ("times n l -2", TooMany("letters", 500)),
                            ("put l a c", TooMany("letters", 500)), ("put m b m", TooMany("letters", 500)),
                            ("rims n a", Unbalanced(1)), ("rims n c a", Unbalanced(1)), ("rims n c", Unbalanced(1)),
                            ("rims n q p", TooMany("letters", 24)), ("rims n l", TooMany("letters", 24))):
            self.told(error, changed, shelf, line)
        self.assertEqual(changed(shelf, "then n m m")[1], "500")

    def test_fourteen_kinds_are_no_order(self):
        letters = [str(Word([sign * kind])) for kind in range(1, 15) for sign in (1, -1)]
        self.told(BadWeighing("order"), changed, SHELF, "weigh n " + " ".join(letters))
        later, _ = changed(SHELF, "weigh n " + " ".join(letters[:26]))
        self.assertEqual(later.weighing("n").kinds, tuple(range(1, 14)))


class Drawn(Case):
    def test_long_rows_of_lines_against_plain_lists(self):
        done, refused = {}, {}
        for start in range(30):
            draws = Draws(970 + start)
            model, shelf = Model(), Shelf()
            for _ in range(120):
                line = drawn_line(draws, DEED_WORDS)
                if draws.below(12) == 0:
                    line = drawn_order_line(draws, draws.one_of(["v", "v2", "w1"]), 1 + draws.below(5))
                first = line.split(" ")[0]
                wanted = outcome(model.one, line)
                before = shelf.things
                found = outcome(changed, shelf, line)
                if wanted[0] == "raised":
                    self.assertEqual(found, wanted)
                    refused[first] = True
                else:
                    self.assertEqual(found[1][1], wanted[1])
                    self.assertEqual(shelf.things, before)
                    shelf = found[1][0]
                    done[first] = True
                self.assertEqual(list(shelf.things), model.things())
                self.assertEqual(answer_of(shelf, "names"), model.one("names"))
        self.assertEqual(sorted(done), sorted(DEED_WORDS))
        self.assertEqual(sorted(refused), sorted(DEED_WORDS))
