"""Reckoning with lists and tuples of letters, however many."""


def contrary_letters(letters):
    """The contraries of the letters, the last one first."""
    return tuple([-letter for letter in letters[::-1]])


def shortened_letters(letters):
    """What is left when all neighbours that are contraries are taken out."""
    left = []
    for letter in letters:
        if left and left[-1] == -letter:
            left.pop()
        else:
            left.append(letter)
    return tuple(left)


def rounded_letters(letters):
    """The letters shortened, then without contraries at their two ends."""
    left = shortened_letters(letters)
    skipped = 0
    while 2 * skipped < len(left) and left[skipped] == -left[len(left) - 1 - skipped]:
        skipped += 1
    return left[skipped:len(left) - skipped]


def turned_letters(letters, by):
    """The letters, read round, from this place on, counted on as often as it takes."""
    if not letters:
        return ()
    start = by % len(letters)
    return letters[start:] + letters[:start]


def kinds_of(letters):
    """The ascending tuple of the kinds of the letters."""
    return tuple(sorted({abs(letter) for letter in letters}))


def balance_of(letters):
    """The pairs (kind, forward less backward), the kinds ascending, none with 0."""
    pairs = [(kind, letters.count(kind) - letters.count(-kind)) for kind in kinds_of(letters)]
    return tuple([(kind, more) for kind, more in pairs if more != 0])
