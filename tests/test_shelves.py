from handlerims.errors import BadDesk, Misfit, NoName, Twice
from handlerims.shelves import Shelf
from handlerims.weighings import Weighing
from handlerims.words import Word
from tests.cases import NO_LISTS, WRONG, Case, Odd
from tests.test_weighings import LIGHT, RING

LOOP = Word([1, 2, -1, -2])
FULL = (("l", LOOP), ("r", RING), ("w", LIGHT), ("e", Word([])))


class Made(Case):
    def test_attributes(self):
        shelf = Shelf([["l", LOOP], ("r", RING), ["w", LIGHT], ("e", Word([]))])
        self.assertEqual((shelf.things, shelf.names), (FULL, ("l", "r", "w", "e")))
        self.assertTrue(all(type(pair) is tuple for pair in shelf.things))
        for empty in (Shelf(), Shelf([]), Shelf(things=())):
            self.assertEqual((empty.things, empty.names), ((), ()))
        self.assertEqual(Shelf(things=FULL).names, ("l", "r", "w", "e"))

    def test_what_is_passed_is_copied(self):
        pair = ["l", LOOP]
        things = [pair]
        shelf = Shelf(things)
        pair[0] = "m"
        things.append(("x", LOOP))
        self.assertEqual(shelf.things, (("l", LOOP),))

    def test_names(self):
        for name in ("a", "a1", "abcdefghijkl", "word", "names", "z00000000000"):
            self.assertEqual(Shelf([(name, LOOP)]).names, (name,))

    def test_wrong_things(self):
        good = ("l", LOOP)
        bent = [["l"], [LOOP], [("l",)], [("l", LOOP, LOOP)], [(LOOP, "l")], [("", LOOP)], [("1", LOOP)],
                [("abcdefghijklm", LOOP)], [("A", LOOP)], [("l", "a b")], [("l", (1, 2))], [("l", None)], good,
                [good, None], {"l": LOOP}, [good, ("l", 5)], [good, good, ("m", None)], "ab", 5, LOOP, Shelf([good]),
                [("l", Shelf())], [(b"l", LOOP)], iter([good]), [("l", [LOOP])], [("l", Word)], {"l"}]
        for value in WRONG:
            bent += [[value], [("l", value)], [good, value]]
            # One of them is a string that can be a name.
            bent += [] if isinstance(value, str) and value == "a" else [[(value, LOOP)]]
        for value in bent + list(NO_LISTS):
            self.told(BadDesk("things"), Shelf, value)

    def test_names_told_twice(self):
        self.told(Twice("l"), Shelf, [("l", LOOP), ("l", LOOP)])
        self.told(Twice("r"), Shelf, [("l", LOOP), ("r", RING), ("r", LIGHT), ("l", LOOP)])

    def test_equal(self):
        self.assertTrue(Shelf(FULL) == Shelf(list(FULL)))
        self.assertTrue(Shelf() == Shelf([]))
        for other in (Shelf(), Shelf(FULL[:3]), Shelf(FULL[::-1]), Shelf((("l", LOOP.turned(1)),) + FULL[1:]),
                      Shelf((("m", LOOP),) + FULL[1:]), Shelf((("l", RING),) + FULL[1:]), FULL, None, "l"):
            self.assertIs(Shelf(FULL) == other, False)
            self.assertIs(Shelf(FULL) != other, True)
        self.assertIs(Shelf([("e", Word([]))]) == Shelf([("e", Weighing([]))]), False)


class Asked(Case):
    def test_things_of_each_class(self):
        shelf = Shelf(FULL)
        self.assertEqual((shelf.word("l"), shelf.word(name="e"), shelf.rims("r"), shelf.rims(name="r")),
                         (LOOP, Word([]), RING, RING))
        self.assertEqual((shelf.weighing("w"), shelf.weighing(name="w")), (LIGHT, LIGHT))

    def test_things_of_another_class(self):
        shelf = Shelf(FULL)
        for call, names in ((shelf.word, "rw"), (shelf.rims, "lwe"), (shelf.weighing, "lre")):
            for name in names:
                self.told(Misfit("kinds"), call, name)

    def test_names_under_which_nothing_is_kept(self):
        for shelf in (Shelf(FULL), Shelf()):
            for call in (shelf.word, shelf.rims, shelf.weighing):
                self.wrong_among(call, NoName, ("x", "", "L", "ll", 5, ("l",), ["l"], LOOP, Odd(), ("l", LOOP), "l "))

    def test_many_things(self):
        names = ["n" + str(at) for at in range(700)]
        shelf = Shelf([(name, Word([1] * (at % 5))) for at, name in enumerate(names)])
        self.assertEqual(shelf.names, tuple(names))
        self.assertEqual(len(shelf.word("n699")), 4)
        self.assertEqual(shelf, Shelf([(name, shelf.word(name)) for name in names]))
