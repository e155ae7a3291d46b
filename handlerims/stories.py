"""Stories of desks: played back, compared, merged."""

from handlerims.checks import is_listed
from handlerims.desk import Desk, need_desk
from handlerims.errors import BadDesk, BadLine, HandleError


def replay(lines):
    """A new Desk that is told these deed lines."""
    if not is_listed(lines) or not all([isinstance(line, str) for line in lines]):
        raise BadDesk("lines")
    made = Desk()
    for at, line in enumerate(lines):
        try:
            made.deed(line)
        except HandleError as error:
            raise BadLine(at, error)
    return made


def need_two_desks(one, other):
    """Raise BadDesk for the first that is no Desk."""
    need_desk(one, "one")
    need_desk(other, "other")


def parting(one, other):
    """How many lines the stories of two desks begin with alike."""
    need_two_desks(one, other)
    many = 0
    for here, there in zip(one.story, other.story):
        if here != there:
            return many
        many += 1
    return many


def merged(one, other):
    """A new Desk that is told the story of one, then that of other behind the parting; and which lines it refused."""
    first = parting(one, other)
    made = replay(one.story)
    lines = other.story[first:]
    refused = []
    for at, line in enumerate(lines, start=first):
        try:
            made.deed(line)
        except HandleError:
            refused.append(at)
    return (made, tuple(refused))
