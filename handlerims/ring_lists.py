"""Lists of balanced rings of few kinds and few letters."""

from handlerims.needs import need_within
from handlerims.parted import first_parting
from handlerims.words import Word

MOST_LISTED_KINDS = 2
MOST_LISTED_LETTERS = 8


def shares_of(kinds, bands):
    """The ways to give each kind, one or two, how many of the bands it has, one at least."""
    if kinds == 1:
        return [(bands,)]
    return [(many, bands - many) for many in range(1, bands)]


def longer_rows(rows, stock):
    """The rows with one letter more of those in stock, told as pairs of a letter and how many there are.

    Each row comes with its period: read on by it, the row is the begin of a least turned form. A letter
    below the one a period ahead would make a turned form the lesser one.
    """
    longer = []
    for row, period in rows:
        least = row[-period]
        for letter, many in stock:
            if letter >= least and letter != -row[-1] and row.count(letter) < many:
                longer.append((row + (letter,), period if letter == least else len(row) + 1))
    return longer


def rows_of_share(share):
    """The least turned forms of the rings that are short round and have so many bands of each kind."""
    kinds = len(share)
    stock = [(letter, share[abs(letter) - 1]) for letter in range(-kinds, kinds + 1) if letter != 0]
    # All these letters stand in the ring, so its least turned form begins with the least one.
    rows = [((-kinds,), 1)]
    for _ in range(2 * sum(share) - 1):
        rows = longer_rows(rows, stock)
    return [row for row, period in rows if len(row) % period == 0 and row[0] != -row[-1]]


def need_ring_numbers(kinds, letters):
    """Raise BadNumber unless rings of so many kinds and letters are listed."""
    need_within(kinds, 1, MOST_LISTED_KINDS, "kinds")
    need_within(letters, 1, MOST_LISTED_LETTERS, "letters")


def balanced_rings(kinds, letters):
    """The least turned forms of all balanced rings of so many kinds and letters that are short round."""
    need_ring_numbers(kinds, letters)
    # An odd number of letters cannot be balanced.
    shares = shares_of(kinds, letters // 2) if letters % 2 == 0 else []
    rows = [row for share in shares for row in rows_of_share(share)]
    return tuple([Word(row) for row in sorted(rows)])


def handles_of_ring(ring):
    """The handles of a balanced ring of at most 8 letters that is short round."""
    # It has one handle exactly if it is parted; 4 bands and 1 corner, the fewest, make no more than 2.
    return 1 if first_parting(ring) else 2


def rings_with(kinds, letters, handles):
    """Those of the balanced rings that have so many handles."""
    need_ring_numbers(kinds, letters)
    need_within(handles, 0, None, "handles")
    # All have one handle or two: for other numbers nothing needs to be reckoned.
    if handles not in (1, 2):
        return ()
    return tuple([ring for ring in balanced_rings(kinds, letters) if handles_of_ring(ring) == handles])
