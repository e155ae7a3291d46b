"""The desk: things kept under names, what is told of them, and taken back."""

from handlerims.checks import is_name
from handlerims.desk_asks import answer_of
from handlerims.desk_deeds import change_of
from handlerims.desk_lines import DEEDS
from handlerims.errors import BadDesk, BadLine, HandleError, Nothing
from handlerims.shelves import Shelf, shelf_with
from handlerims.texts import items_of


def need_desk(value, part):
    """Raise BadDesk unless the value is a Desk."""
    if not isinstance(value, Desk):
        raise BadDesk(part)


def answers_told(desk, lines):
    """The answers of the desk to the lines, one after the other: BadLine for the first that raises an error."""
    answers = []
    for at, line in enumerate(lines):
        try:
            answers.append(desk.answer(line))
        except HandleError as error:
            raise BadLine(at, error)
    return tuple(answers)


class Desk:
    """What is kept, and the deed lines that led to it."""

    def __init__(self):
        self.shelf = Shelf()
        self.story = ()
        # What each line of the story changed; and each line taken back, with what it changed, the last one last.
        self.changes = ()
        self.undone = ()

    def __eq__(self, other):
        return isinstance(other, Desk) and self.shelf == other.shelf

    def __len__(self):
        return len(self.shelf.things)

    def __contains__(self, x):
        return is_name(x) and x in self.shelf.names

    def __call__(self, line):
        return self.answer(line)

    def answer(self, line):
        """The answer to the line, which is done if it is a deed."""
        if items_of(line)[0] in DEEDS:
            return self.deed(line)
        return answer_of(self.shelf, line)

    def deed(self, line):
        """Do a deed line: the answer."""
        at, olds, news, answer = change_of(self.shelf, line)
        self.step_on(line, (at, olds, news))
        self.undone = ()
        return answer

    def step_on(self, line, change):
        """Put the line behind the story, with what it changes."""
        at, olds, news = change
        self.shelf = shelf_with(self.shelf, at, olds, news)
        self.story = self.story + (line,)
        self.changes = self.changes + (change,)

    def told(self, *lines):
        """The answers, line by line; if one raises an error the desk stays as it was."""
        twin = self.twin()
        answers = answers_told(twin, lines)
        self.become(twin)
        return answers

    def tried(self, *lines):
        """The answers, line by line; the desk stays as it was."""
        return answers_told(self.twin(), lines)

    def undo(self):
        """Take back the last line of the story: this line."""
        if not self.story:
            raise Nothing()
        line, change = self.story[-1], self.changes[-1]
        at, olds, news = change
        self.shelf = shelf_with(self.shelf, at, news, olds)
        self.story = self.story[:-1]
        self.changes = self.changes[:-1]
        self.undone = self.undone + ((line, change),)
        return line

    def redo(self):
        """Do again the line that was taken back last: this line."""
        if not self.undone:
            raise Nothing()
        line, change = self.undone[-1]
        self.step_on(line, change)
        self.undone = self.undone[:-1]
        return line

    def become(self, other):
        """Be in all as the other desk."""
        self.shelf = other.shelf
        self.story = other.story
        self.changes = other.changes
        self.undone = other.undone

    def twin(self):
        """Another desk that is in all as this one."""
        made = Desk()
        made.become(self)
        return made
