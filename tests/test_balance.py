from handlerims.balance import balance, is_balanced
from handlerims.errors import BadWord
from handlerims.words import Word
from tests.cases import Case
from tests.draws import Draws


class Balance(Case):
    def test_balance(self):
        for text, answer in (("-", ()), ("a", ((1, 1),)), ("a'", ((1, -1),)), ("a b a' b'", ()), ("z z", ((26, 2),)),
                             ("c' a b a' a", ((1, 1), (2, 1), (3, -1))), ("a b' a' b' b", ((2, -1),))):
            self.assertEqual(balance(Word.read(text)), answer)
            self.assertIs(is_balanced(Word.read(text)), answer == ())
        self.assertIs(type(balance(word=Word([1]))), tuple)
        self.assertIs(is_balanced(word=Word([1, -1])), True)

    def test_balance_by_adding_up(self):
        draws = Draws(9)
        for _ in range(200):
            word = draws.word(40, 5)
            sums = {}
            for letter in word.letters:
                sums[abs(letter)] = sums.get(abs(letter), 0) + (1 if letter > 0 else -1)
            self.assertEqual(balance(word), tuple(sorted((kind, more) for kind, more in sums.items() if more != 0)))

    def test_500_letters(self):
        self.assertEqual(balance(Word([1] * 500)), ((1, 500),))
        self.assertIs(is_balanced(Word([1] * 250 + [-1] * 250)), True)

    def test_wrong_words(self):
        for call in (balance, is_balanced):
            self.wrong_among(call, lambda value: BadWord("word"), (1, [1], "a b"))
