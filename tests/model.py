"""A second desk: a plain list of rows, words as tuples of letters, and a picture of all of it for each step."""

from fractions import Fraction

from handlerims.cheapest import cheapest
from handlerims.errors import (BadDesk, BadLine, BadText, BadWeighing, BadWord, HandleError, Misfit, NoName, Nothing,
                               TooMany, Twice, Unbalanced)
from handlerims.handles import handles_of
from handlerims.mistakes import bar
from handlerims.parted import parted
from handlerims.price import price
from handlerims.rims import Rims
from handlerims.rings import root_of
from handlerims.sewings import census
from handlerims.spelled import spelled_word
from handlerims.squares import squares_of
from handlerims.tubes import tube
from handlerims.weighings import Weighing
from handlerims.words import Word
from tests.lines import ASK_WORDS, DEED_WORDS, refused_at, told
from tests.weighed import order_table, value_by_hand

CLASSES = {"w": "word", "r": "rims", "v": "weighing"}


def back(letters):
    return tuple(-letter for letter in reversed(letters))


def shortened(letters):
    """Neighbours taken out, the first ones first, until there are none."""
    left = list(letters)
    at = 0
    while at + 1 < len(left):
        if left[at] == -left[at + 1]:
            del left[at:at + 2]
            at = max(0, at - 1)
        else:
            at += 1
    return tuple(left)


def rounded(letters):
    left = shortened(letters)
    while len(left) > 1 and left[0] == -left[-1]:
        left = left[1:-1]
    return left


def text_of(letters):
    names = [chr(96 + abs(letter)) + ("'" if letter < 0 else "") for letter in letters]
    return " ".join(names) if names else "-"


def few(letters):
    if len(letters) > 500:
        raise TooMany("letters", 500)
    return tuple(letters)


def times(letters, number):
    if len(letters) * abs(number) > 500:
        raise TooMany("letters", 500)
    once = letters if number > 0 else back(letters)
    return once * abs(number) if letters else ()


def rims_of(words):
    if len(words) > 4 or not all(words):
        raise BadWord("words")
    letters = [letter for word in words for letter in word]
    if len(letters) > 24:
        raise TooMany("letters", 24)
    for kind in range(1, 27):
        if letters.count(kind) != letters.count(-kind):
            raise Unbalanced(kind)
    return tuple(words)


def weighing_of(letters):
    """The rows of the turning of an order."""
    right = 2 <= len(letters) <= 26 and len(set(letters)) == len(letters)
    if not right or {-letter for letter in letters} != set(letters):
        raise BadWeighing("order")
    table = order_table(letters)
    return tuple(sorted((first, second, number) for (first, second), number in table.items()
                        if number != 0 and (first, second) < (-second, -first)))


def shown(kind, value):
    """The text of a thing, and how many letters, bands or rows it has."""
    if kind == "word":
        return text_of(value), len(value)
    if kind == "rims":
        return " / ".join(text_of(word) for word in value), sum(len(word) for word in value) // 2
    rows = [text_of(row[:2]) + " " + str(row[2]) for row in value]
    return " / ".join(rows) if rows else "-", len(rows)


def made(kind, value):
    """The thing as a value of the package."""
    if kind == "word":
        return Word(value)
    return Rims([Word(word) for word in value]) if kind == "rims" else Weighing(value)


def fraction(top, bottom):
    told_one = Fraction(top, bottom)
    return str(told_one.numerator) + "/" + str(told_one.denominator)


def ask(first, things):
    """The answer to an ask line of these things, pairs of a class and a value."""
    if first == "show":
        return things[0][0] + " " + shown(*things[0])[0]
    values = [made(*thing) for thing in things]
    if first == "root":
        root, many = root_of(values[0])
        return str(many) + " " + str(root)
    if first == "census":
        return " ".join(str(cost) + "=" + str(many) for cost, many in census(values[0]))
    if first == "spelled":
        pairs = [str(one) + " : " + str(other) for one, other in spelled_word(values[0]).pairs]
        return " / ".join(pairs) if pairs else "-"
    if first == "price":
        return fraction(price(values[0]).top, price(values[0]).bottom)
    if first == "value":
        table = {}
        for x, y, number in things[0][1]:
            table[x, y], table[-y, -x] = number, -number
        return str(value_by_hand(table, values[1]))
    if first == "bar":
        found = bar(*values)
        return fraction(found.top, found.bottom) if found else "nobar"
    if first in ("parted", "tube"):
        return (parted if first == "parted" else tube)(*values).word
    if first == "cheapest":
        return str(cheapest(values[0]).cost)
    return str((handles_of if first == "handles" else squares_of)(values[0]).number)


def new_value(first, values):
    """The class and the value of what a line makes of what stands behind its new name."""
    if first == "word":
        return "word", few(values[0])
    if first == "exchange":
        return "word", few(values[0] + values[1] + back(values[0]) + back(values[1]))
    if first == "then":
        return "word", few(values[0] + values[1])
    if first == "times":
        return "word", times(*values)
    return ("rims", rims_of(values)) if first == "rims" else ("weighing", weighing_of(values))


def changed_letters(first, values):
    letters = values[0]
    if first == "turn":
        at = values[1] % len(letters) if letters else 0
        return letters[at:] + letters[:at]
    if first == "put":
        parts = [(values[2] if letter > 0 else back(values[2])) if abs(letter) == values[1] else (letter,)
                 for letter in letters]
        return few([letter for part in parts for letter in part])
    return {"contrary": back, "shorten": shortened, "round": rounded}[first](letters)


class Model:
    """Rows [name, class, value]; a picture of the rows ahead of each line of the story."""

    def __init__(self):
        self.rows, self.story, self.pictures, self.ahead = [], [], [], []

    def picture(self):
        return [list(row) for row in self.rows], list(self.story), list(self.pictures), list(self.ahead)

    def become(self, picture):
        self.rows, self.story, self.pictures, self.ahead = picture

    def things(self):
        return [(name, made(kind, value)) for name, kind, value in self.rows]

    def found(self, line):
        """What the line tells, things in the place of names: errors as they are told for lines."""
        if not isinstance(line, str) or refused_at(line) is not None:
            raise BadText(0, refused_at(line) if isinstance(line, str) else 0)
        kept = {name: (kind, value) for name, kind, value in self.rows}
        parts = told(line)
        for part, name in parts:
            if part in "wrvg" and name not in kept:
                raise NoName(name)
        for part, name in parts:
            if part in "wrv" and kept[name][0] != CLASSES[part]:
                raise Misfit("kinds")
        if parts and parts[0][0] == "NEW" and parts[0][1] in kept:
            raise Twice(parts[0][1])
        return [kept[value] if part in "wrvg" else (part, value) for part, value in parts], parts

    def one(self, line):
        """The answer to one line."""
        things, parts = self.found(line)
        first = line.split(" ")[0]
        if first in ASK_WORDS:
            return ask(first, things) if first != "names" else " ".join(row[0] for row in self.rows) or "-"
        values = [value for _, value in things]
        name = parts[0][1]
        at = [row[0] for row in self.rows].index(name) if parts[0][0] != "NEW" else None
        rows = [list(row) for row in self.rows]
        if first == "drop":
            del rows[at]
            answer = str(len(rows))
        elif at is not None:
            rows[at][2] = changed_letters(first, values)
            answer = text_of(rows[at][2])
        else:
            rows.append([name, *new_value(first, values[1:])])
            answer = str(shown(*rows[-1][1:])[1])
        self.pictures.append(self.rows)
        self.story.append(line)
        self.rows, self.ahead = rows, []
        return answer

    def told(self, *lines):
        before = self.picture()
        answers = []
        for at, line in enumerate(lines):
            try:
                answers.append(self.one(line))
            except HandleError as error:
                self.become(before)
                raise BadLine(at, error) from None
        return tuple(answers)

    def tried(self, *lines):
        before = self.picture()
        answers = self.told(*lines)
        self.become(before)
        return answers

    def undo(self):
        if not self.story:
            raise Nothing()
        self.ahead.append((self.story.pop(), self.rows))
        self.rows = self.pictures.pop()
        return self.ahead[-1][0]

    def redo(self):
        if not self.ahead:
            raise Nothing()
        line, rows = self.ahead.pop()
        self.pictures.append(self.rows)
        self.story.append(line)
        self.rows = rows
        return line

    def twin(self):
        other = Model()
        other.become(self.picture())
        return other


def outcome(call, *lines):
    """What the call returns, or the error that it raises, told so that both can be compared."""
    try:
        return "returned", call(*lines)
    except HandleError as error:
        return "raised", told_error(error)


def told_error(error):
    """The class of the error, and what it keeps, errors in it likewise."""
    kept = [told_error(value) if isinstance(value, HandleError) else value for value in vars(error).values()]
    return type(error), kept


def need_deed(line):
    if not isinstance(line, str):
        raise BadDesk("lines")
    if line.split(" ")[0] not in DEED_WORDS:
        raise BadText(0, 0)
