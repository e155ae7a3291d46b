"""The errors of the package. Each keeps its fields in attributes of their names."""


class HandleError(ValueError):
    """The base of all errors of the package."""


class BadWord(HandleError):
    """A value that is no word, or none that can stand there."""

    def __init__(self, part):
        self.part = part


class BadRims(HandleError):
    """A value that is no rims."""

    def __init__(self, part):
        self.part = part


class BadSewing(HandleError):
    """A value that is no sewing, or no mates of one."""

    def __init__(self, part):
        self.part = part


class BadBag(HandleError):
    """A value that is no bag, or no walks of one."""

    def __init__(self, part):
        self.part = part


class BadWeighing(HandleError):
    """A value that is no weighing, or no rows of one."""

    def __init__(self, part):
        self.part = part


class BadNumber(HandleError):
    """A value that is no such integer, or no list of such."""

    def __init__(self, part):
        self.part = part


class BadPaper(HandleError):
    """A value that is no such paper."""

    def __init__(self, part):
        self.part = part


class BadDesk(HandleError):
    """A value that is no desk, or nothing that one can be made of."""

    def __init__(self, part):
        self.part = part


class Misfit(HandleError):
    """Values that are right alone, but do not fit together."""

    def __init__(self, part):
        self.part = part


class Missing(HandleError):
    """A value that is none here."""

    def __init__(self, value):
        self.value = value


class NoPlace(Missing):
    """A value that is no place of the rims."""

    def __init__(self, value):
        Missing.__init__(self, value)


class NoLetter(Missing):
    """A value that is no letter, or no kind of letters."""

    def __init__(self, value):
        Missing.__init__(self, value)


class NoName(Missing):
    """A value that is no name of anything that is kept."""

    def __init__(self, value):
        Missing.__init__(self, value)


class Twice(HandleError):
    """A value that stands there already."""

    def __init__(self, value):
        self.value = value


class Unbalanced(HandleError):
    """The least kind that does not stand as often forward as backward."""

    def __init__(self, kind):
        self.kind = kind


class TooMany(HandleError):
    """There are more of something than the most that there can be."""

    def __init__(self, what, most):
        self.what = what
        self.most = most


class Impossible(HandleError):
    """There is no answer; a denial shows it."""

    def __init__(self, paper):
        self.paper = paper


class Nothing(HandleError):
    """There is nothing to take back, or to do again."""


class BadText(HandleError):
    """A text with an item that cannot stand, or with one missing."""

    def __init__(self, line, item):
        self.line = line
        self.item = item


class BadLine(HandleError):
    """A line of a desk, and the error that was raised there."""

    def __init__(self, line, error):
        self.line = line
        self.error = error
