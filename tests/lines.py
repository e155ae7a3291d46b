"""A second way to read the lines of a desk: the forms of the tables, item by item by patterns."""

import re

# As the tables tell them; a name that is followed by its class in small letters, g for any of the three.
DEED_FORMS = ("word NEW WORD", "exchange NEW w w", "then NEW w w", "times NEW w T", "rims NEW w ..",
              "weigh NEW LETTER ..", "turn w T", "contrary w", "shorten w", "round w", "put w KIND w", "drop g")
ASK_FORMS = ("names", "show g", "root w", "census r", "handles w", "parted w", "spelled w", "cheapest r", "tube w w",
             "squares w", "price r", "value v r", "bar v r")
FORMS = {form.split(" ")[0]: form.split(" ")[1:] for form in DEED_FORMS + ASK_FORMS}
DEED_WORDS = tuple(form.split(" ")[0] for form in DEED_FORMS)
ASK_WORDS = tuple(form.split(" ")[0] for form in ASK_FORMS)
NAME = re.compile(r"[a-z][a-z0-9]{0,11}", re.ASCII)
PATTERNS = {"T": re.compile(r"0|-?[1-9][0-9]{0,59}", re.ASCII), "KIND": re.compile("[a-z]"),
            "LETTER": re.compile("[a-z]'?")}


def parts_for(first, many):
    """What so many items behind the first one stand for, and whether one more can stand; word texts are apart."""
    form = [part for part in FORMS[first] if part != ".."]
    if ".." in FORMS[first]:
        return form + form[-1:] * max(0, many - len(form)), len(form)
    return form, len(form)


def word_refused(items):
    """The first of these items at which they are no text of a word, None if they are one."""
    if items[:1] == ["-"]:
        return None if len(items) == 1 else 1
    for at, item in enumerate(items):
        if at == 500 or not PATTERNS["LETTER"].fullmatch(item):
            return at
    return None if items else 0


def refused_at(line):
    """The item at which a string is told to be no line, None if it is one."""
    items = line.split(" ")
    if items[0] not in FORMS:
        return 0
    parts, least = parts_for(items[0], len(items) - 1)
    for at, item in enumerate(items[1:], 1):
        if at > len(parts):
            return at
        part = parts[at - 1]
        if part == "WORD":
            wrong = word_refused(items[at:])
            return None if wrong is None else at + wrong
        if not PATTERNS.get(part, NAME).fullmatch(item):
            return at
    return len(items) if len(items) - 1 < least else None


def letter_told(item):
    number = ord(item[0]) - 96
    return -number if item.endswith("'") else number


def told(line):
    """What a line tells: a list of pairs of a part and its value; letters of a word as a tuple."""
    items = line.split(" ")
    parts, _ = parts_for(items[0], len(items) - 1)
    values = []
    for at, (part, item) in enumerate(zip(parts, items[1:]), 1):
        if part == "WORD":
            rest = items[at:]
            value = () if rest == ["-"] else tuple(letter_told(one) for one in rest)
        elif part == "T":
            value = int(item)
        else:
            value = letter_told(item) if part in ("KIND", "LETTER") else item
        values.append((part, value))
    return values


NAMES = ("a", "b", "c", "w1", "word", "names", "r", "r2", "turn9", "z", "abcdefghijkl", "v", "v2", "empty", "show")


def drawn_line(draws, firsts=DEED_WORDS + ASK_WORDS, names=NAMES, letters=6, kinds=3):
    """A line, all items of which can stand."""
    first = draws.one_of(firsts)
    items = [first]
    form = [part for part in FORMS[first] if part != ".."]
    if ".." in FORMS[first]:
        form += form[-1:] * draws.below(3)
    for part in form:
        if part == "T":
            items.append(str(draws.one_of([0, 1, -1, 2, 3, -2, 7, -13, 10 ** 59])))
        elif part == "KIND":
            items.append(chr(97 + draws.below(kinds)))
        elif part == "LETTER":
            items.append(chr(97 + draws.below(kinds)) + draws.one_of(["", "'"]))
        elif part == "WORD":
            many = draws.below(letters + 1)
            items += [chr(97 + draws.below(kinds)) + draws.one_of(["", "'"]) for _ in range(many)] or ["-"]
        else:
            items.append(draws.one_of(names))
    return " ".join(items)


def drawn_order_line(draws, name, kinds):
    """A line that weighs by an order of the letters of so many kinds."""
    letters = [chr(96 + kind) + sign for kind in range(1, kinds + 1) for sign in ("", "'")]
    return " ".join(["weigh", name] + draws.mixed(letters))
