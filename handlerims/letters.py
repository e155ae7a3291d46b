"""Reckoning with lists and tuples of letters, however many."""


def contrary_letters(letters):
    """The contraries of the letters, the last one first."""
    return tuple([-letter for letter in letters[::-1]])


def shortened_letters(letters):
    """What is left when all neighbours that are contraries are taken out."""
    left = []
    for letter in letters:
        if left and left[-1] == -letter:
            left.pop()
        else:
            left.append(letter)
    return tuple(left)


def rounded_letters(letters):
    """The letters shortened, then without contraries at their two ends."""
    left = shortened_letters(letters)
    skipped = 0
    while 2 * skipped < len(left) and left[skipped] == -left[len(left) - 1 - skipped]:
        skipped += 1
    return left[skipped:len(left) - skipped]


def ends_and_ring(letters):
    """Of short letters: those at the begin that their contraries at the end undo, and what is between."""
    ring = rounded_letters(letters)
    return (letters[:(len(letters) - len(ring)) // 2], ring)


def exchange_letters(one, other):
    """The one, the other, the contrary of the one, that of the other."""
    return one + other + contrary_letters(one) + contrary_letters(other)


def worths_of(kind, letters):
    """What is put for the kind when these letters are: they, or, for its contrary, their contraries."""
    return {kind: letters, -kind: contrary_letters(letters)}


def replaced_letters(letters, worths):
    """The letters, all at once with the letters in worths put for those that stand there."""
    made = []
    for letter in letters:
        made.extend(worths.get(letter, (letter,)))
    return tuple(made)


def turned_letters(letters, by):
    """The letters, read round, from this place on, counted on as often as it takes."""
    if not letters:
        return ()
    start = by % len(letters)
    return letters[start:] + letters[:start]


def least_start(values):
    """The least place from where on the values, read round, are the least tuple; 0 if there are none."""
    many = len(values)
    one, other, alike = 0, 1, 0
    # Where two readings part, none that begins within what was alike of the greater one is the least.
    while one < many and other < many and alike < many:
        here, there = values[(one + alike) % many], values[(other + alike) % many]
        if here == there:
            alike += 1
            continue
        if here > there:
            one += alike + 1
        else:
            other += alike + 1
        if one == other:
            other += 1
        alike = 0
    return min(one, other)


def kinds_of(letters):
    """The ascending tuple of the kinds of the letters."""
    return tuple(sorted({abs(letter) for letter in letters}))


def counts_of(letters):
    """The pairs of a kind and of how often it stands in the letters, contraries counted too, the kinds ascending."""
    return [(kind, letters.count(kind) + letters.count(-kind)) for kind in kinds_of(letters)]


def balance_of(letters):
    """The pairs (kind, forward less backward), the kinds ascending, none with 0."""
    pairs = [(kind, letters.count(kind) - letters.count(-kind)) for kind in kinds_of(letters)]
    return tuple([(kind, more) for kind, more in pairs if more != 0])
