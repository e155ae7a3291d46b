"""Words read round, their roots, and words that go past one another."""

from handlerims.errors import BadWord
from handlerims.letters import contrary_letters, ends_and_ring, least_start, shortened_letters, turned_letters
from handlerims.papers import Denial, Paper
from handlerims.words import Word, is_filled, need_word


class Root(Paper):
    """A word of which two words are, shortened, some times."""

    def __init__(self, root, here, there):
        Paper.__init__(self, "root", root, here, there)
        self.root, self.here, self.there = self.parts


class NoRoot(Denial):
    """Two words do not go past one another."""

    def __init__(self):
        Denial.__init__(self, "noroot")


def need_two_words(one, other):
    """Raise BadWord for the first that is no Word."""
    need_word(one, "one")
    need_word(other, "other")


def turn_to(one, other):
    """The least turn that makes other of one, as they stand, None if there is none."""
    need_two_words(one, other)
    # The empty word has one turned form, too: the one at 0.
    for turn in range(max(1, one.length)):
        if turned_letters(one.letters, turn) == other.letters:
            return turn
    return None


def least_turned(word):
    """The least of all turned forms of the word, as it stands."""
    need_word(word, "word")
    return word.turned(least_start(word.letters))


def root_letters(letters):
    """The shortest letters of which these, not none, are some times."""
    for many in range(1, len(letters)):
        if len(letters) % many == 0 and letters[:many] * (len(letters) // many) == letters:
            return letters[:many]
    return letters


def root_of(word):
    """The shortest word of which this is some times, letter by letter, and how many times."""
    if not is_filled(word):
        raise BadWord("word")
    root = root_letters(word.letters)
    return (Word(root), word.length // len(root))


def go_past(one, other):
    """Whether one and then other shortens to what other and then one does."""
    need_two_words(one, other)
    # Both together can be longer than a word.
    here, there = one.letters, other.letters
    return shortened_letters(here + there) == shortened_letters(there + here)


def short_root(letters):
    """Of short letters, not none: the ends put around the root, and the root of what is between."""
    ends, inner = ends_and_ring(letters)
    return (ends, root_letters(inner))


def times_of_root(letters, ends, inner):
    """How many times short letters are inner between ends, known to be some times, below 0 for the contrary."""
    if not letters:
        return 0
    many = (len(letters) - 2 * len(ends)) // len(inner)
    return many if letters[len(ends)] == inner[0] else -many


def common_root(one, other):
    """The Root of two words that go past one another, otherwise the NoRoot."""
    if not go_past(one, other):
        return NoRoot()
    here, there = shortened_letters(one.letters), shortened_letters(other.letters)
    if not here and not there:
        return Root(Word([]), 0, 0)
    ends, inner = short_root(here if here else there)
    root = Word(ends + inner + contrary_letters(ends))
    return Root(root, times_of_root(here, ends, inner), times_of_root(there, ends, inner))
