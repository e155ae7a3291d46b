from handlerims.desk_lines import ASKS, DEEDS, read_line
from handlerims.errors import BadText
from handlerims.words import Word
from tests.cases import WRONG, Case, Odd
from tests.draws import Draws
from tests.lines import ASK_WORDS, DEED_WORDS, drawn_line, refused_at, told
from tests.test_weighings import LIGHT


class Read(Case):
    def test_first_items(self):
        self.assertEqual(DEEDS, ("word", "exchange", "then", "times", "rims", "weigh", "turn", "contrary", "shorten",
                                 "round", "put", "drop"))
        self.assertEqual(ASKS, ("names", "show", "root", "census", "handles", "parted", "spelled", "cheapest", "tube",
                                "squares", "price", "value", "bar"))
        self.assertEqual((DEEDS, ASKS), (DEED_WORDS, ASK_WORDS))

    def test_told_ones(self):
        for line, values in (("times b a -2", ("times", "b", "a", -2)), ("weigh t a b'", ("weigh", "t", 1, -2)),
                             ("put a c b", ("put", "a", 3, "b")), ("names", ("names",)), ("show a", ("show", "a")),
                             ("exchange x a b", ("exchange", "x", "a", "b")), ("then x x x", ("then", "x", "x", "x")),
                             ("rims r a", ("rims", "r", "a")),
                             ("rims r a b a b a", ("rims", "r", "a", "b", "a", "b", "a")),
                             ("weigh w z'", ("weigh", "w", -26)), ("weigh w a a", ("weigh", "w", 1, 1)),
                             ("turn a 0", ("turn", "a", 0)), ("turn a -7", ("turn", "a", -7)),
                             ("contrary a", ("contrary", "a")), ("shorten a", ("shorten", "a")),
                             ("round a", ("round", "a")), ("drop a", ("drop", "a")),
                             ("put z z z", ("put", "z", 26, "z")),
                             ("root a", ("root", "a")), ("census a", ("census", "a")), ("handles a", ("handles", "a")),
                             ("parted a", ("parted", "a")), ("spelled a", ("spelled", "a")),
                             ("cheapest a", ("cheapest", "a")), ("tube a b", ("tube", "a", "b")),
                             ("squares a", ("squares", "a")), ("price a", ("price", "a")),
                             ("value a b", ("value", "a", "b")), ("bar a b", ("bar", "a", "b"))):
            found = read_line(line)
            self.assertEqual(repr(found), repr(values))
            self.assertIs(type(found), tuple)
        self.assertEqual(read_line(line="show a"), ("show", "a"))

    def test_words(self):
        for text in ("-", "a", "z'", "a b' a' b", "a a'", " ".join(["a", "b'"] * 250)):
            found = read_line("word w " + text)
            self.assertEqual((found[:2], len(found)), (("word", "w"), 3))
            self.assertEqual(found[2], Word.read(text))
        for text, item in (("", 2), ("- ", 3), ("- a", 3), ("a -", 3), ("a  b", 3), ("a b' '", 4), ("A", 2), ("a ", 3),
                           (" a", 2), ("a / b", 3), ("a''", 2), ("ab", 2), ("1", 2),
                           (" ".join(["a"] * 501), 502), (" ".join(["a"] * 500) + " ", 502)):
            self.told(BadText(0, item), read_line, "word w " + text)
            self.assertEqual(refused_at("word w " + text), item)
        self.told(BadText(0, 2), read_line, "word w")
        self.told(BadText(0, 1), read_line, "word")

    def test_names_of_1_12_and_13_characters(self):
        for name in ("a", "z", "a1", "abcdefghijkl", "z12345678901", "word", "names", "show", "value", "a0"):
            self.assertEqual(read_line("then " + " ".join([name] * 3)), ("then", name, name, name))
            self.assertEqual(read_line("show " + name), ("show", name))
        for name in ("", "1", "1a", "A", "aB", "a_", "a'", "abcdefghijklm", "-", "/", "a-b", "\u00e4", "a\n", "a\t"):
            for at, line in ((1, "then {} a a"), (2, "then a {} a"), (3, "then a a {}"), (1, "show {}"), (1, "drop {}"),
                             (1, "word {} a"), (2, "rims r {}"), (3, "rims r a {}"), (4, "rims r a a {} a")):
                self.told(BadText(0, at), read_line, line.format(name))

    def test_integers(self):
        for digits in ("0", "1", "-1", "9" * 60, "-" + "9" * 60, "1" + "0" * 59):
            self.assertEqual(read_line("times b a " + digits)[3], int(digits))
            self.assertEqual(read_line("turn a " + digits)[2], int(digits))
        for digits in ("", "-", "+1", "01", "-0", "00", "1.0", "1e3", "9" * 61, "-" + "9" * 61, "0" * 60, "a", "1_0",
                       "--1", "0x1", "\u0661", "\u00b2", "1\n", "9" * 5000, "-01", "0" * 61):
            self.told(BadText(0, 3), read_line, "times b a " + digits)
            self.told(BadText(0, 2), read_line, "turn a " + digits)

    def test_kinds_and_letters(self):
        for item in ("a'", "", "A", "ab", "1", "'", "a''", "-", "\u00e4"):
            self.told(BadText(0, 2), read_line, "put a " + item + " b")
        self.told(BadText(0, 2), read_line, "put a c' b")
        for item in ("", "A", "ab", "1", "'", "a''", "-", "/", "0"):
            self.told(BadText(0, 2), read_line, "weigh w " + item)
            self.told(BadText(0, 4), read_line, "weigh w a a' " + item)
        many = " ".join(["a", "a'"] * 40)
        self.assertEqual(len(read_line("weigh w " + many)), 82)
        self.assertEqual(len(read_line("rims w " + many.replace("'", "1"))), 82)

    def test_missing_items_and_items_too_many(self):
        for line in ("word", "word w", "exchange", "exchange x", "exchange x a", "then x a", "times x", "times x a",
                     "rims", "rims r", "weigh", "weigh w", "turn", "turn a", "contrary", "shorten", "round", "put",
                     "put a", "put a b", "drop", "show", "root", "census", "handles", "parted", "spelled", "cheapest",
                     "tube", "tube a", "squares", "price", "value", "value a", "bar", "bar a"):
            self.told(BadText(0, line.count(" ") + 1), read_line, line)
            # A blank behind is an empty item, that cannot stand either.
            self.told(BadText(0, line.count(" ") + 1), read_line, line + " ")
        for line in ("exchange x a b", "then x a b", "times x a 3", "turn a 3", "contrary a", "shorten a", "round a",
                     "put a b c", "drop a", "names", "show a", "root a", "tube a b", "price a", "value a b", "bar a b",
                     "word w -"):
            read_line(line)
            for more in ("", "a", "a b", "/", "1"):
                self.told(BadText(0, line.count(" ") + 1), read_line, line + " " + more)

    def test_first_items_that_are_none(self):
        for line in ("", " ", "a", "Word w a", "word\tw a", " word w a", "nam", "namess", "- a", "/ a", "words w a",
                     "shorten\n", "NAMES", "told a", "undo", "x y z", "1", "exchange' x a b", "\u00e4 a"):
            self.told(BadText(0, 0), read_line, line)

    def test_no_strings(self):
        for value in WRONG + (5, -1, ["names"], ("names",), b"names", Word([1]), LIGHT, Odd()):
            if not isinstance(value, str):
                self.told(BadText(0, 0), read_line, value)

    def test_drawn_lines_and_bent_ones(self):
        draws = Draws(960)
        fillers = ["", "a", "a'", "1", "0", "-1", "-", "/", "word", "names", "b b", "z9", "Z", "13a", "a" * 13, "''"]
        right = wrong = 0
        for _ in range(1500):
            line = drawn_line(draws)
            items = line.split(" ")
            at, other = draws.below(len(items) + 1), draws.below(len(items))
            swapped = list(items)
            swapped[at - 1], swapped[other] = items[other], items[at - 1]
            for bent in (items, swapped, items[:at] + [draws.one_of(fillers)] + items[at:], items[:at],
                         items[:at] + [draws.one_of(fillers)] + items[at + 1:], items[:at] + items[at + 1:],
                         items[:at] + items[at - 1:], items + ["a"], items + items):
                text = " ".join(bent)
                wanted = refused_at(text)
                if wanted is not None:
                    self.told(BadText(0, wanted), read_line, text)
                    wrong += 1
                    continue
                found = read_line(text)
                values = tuple(Word(value) if part == "WORD" else value for part, value in told(text))
                self.assertEqual((found[0], found[1:]), (bent[0], values))
                right += 1
        self.assertGreater(min(right, wrong), 3000)
