"""The lines of the text of a program: writing and reading them."""

from bothlots.checks import read_test, test_text
from bothlots.columns import KINDS
from bothlots.errors import InvalidTest, InvalidText
from bothlots.steps import WAYS
from bothlots.words import is_column, is_name

DIGITS = "0123456789"
MOST_DIGITS = 15


def write_lines(main, unique, sides, steps):
    """The text of a program with these parts."""
    lines = [" ".join(["main"] + _column_words(main))]
    if len(unique) > 0:
        lines.append(" ".join(["key", *unique]))
    for name, how, columns in sides:
        lines.append(" ".join(["side", name, how] + _column_words(columns)))
    lines = lines + [_step_line(step) for step in steps]
    return "".join([f"{line}\n" for line in lines])


def _column_words(columns):
    return [f"{name}:{_kind_word(kind)}" for name, kind in columns]


def _kind_word(kind):
    return kind if isinstance(kind, str) else "/".join(kind)


def _step_line(step):
    word = step[0]
    if word == "keep":
        return f"keep {test_text(step[1])}"
    if word == "near":
        return " ".join(["near", step[2], step[1], *step[3]])
    if word == "all":
        return " ".join(["all", step[1], *step[2]])
    if word == "once":
        return " ".join(["once", *step[1]])
    if word == "cut" and step[1] in ("mark", "groups"):
        return " ".join(["cut", step[1], str(step[3]), _rests_word(step[4]), *step[2]])
    if word == "cut" and step[1] == "rounds":
        return " ".join(["cut", "rounds", str(step[2]), _rests_word(step[3])])
    return " ".join([str(part) for part in step])


def _rests_word(rests):
    return ",".join([str(rest) for rest in rests])


def read_lines(text):
    """The parts main, unique, sides and steps of a text; InvalidText(line) for the first wrong line."""
    if not isinstance(text, str):
        raise InvalidText(0)
    # Behind the last line feed nothing may stand, and without any line there is none that is right.
    *lines, rest = text.split("\n")
    parts = Parts()
    for at, line in enumerate(lines):
        if not parts.takes(line.split(" ")):
            raise InvalidText(at)
    if rest != "" or len(lines) == 0:
        raise InvalidText(len(lines))
    return parts.table, tuple(parts.key), parts.others, parts.done


class Parts:
    """The parts of a program that have been read so far."""

    def __init__(self):
        self.table = []
        self.key = []
        self.others = []
        self.done = []

    def takes(self, words):
        """Take a line, by its words; False if it is not of its form or stands where it cannot stand."""
        # A main table always has a column, so without one the line of it is due.
        if len(self.table) == 0:
            self.table = _read_columns(words[1:]) if words[0] == "main" else []
            return len(self.table) > 0
        if words[0] == "key":
            return self._takes_key(words[1:])
        if words[0] == "side":
            return self._takes_side(words[1:])
        step = _read_step(words)
        if step is None:
            return False
        self.done.append(step)
        return True

    def _takes_key(self, words):
        if len(self.key) + len(self.others) + len(self.done) > 0 or not _are_columns(words, 1):
            return False
        self.key = words
        return True

    def _takes_side(self, words):
        if len(self.done) > 0 or len(words) < 2 or not is_name(words[0]) or words[1] not in ("one", "many"):
            return False
        columns = _read_columns(words[2:])
        self.others.append((words[0], words[1], columns))
        return len(columns) > 0


def _read_columns(words):
    """The list of the columns that these words write, empty if one of them is none."""
    columns = [_read_column(word) for word in words]
    return [] if None in columns else columns


def _read_column(word):
    name, _, kind = word.partition(":")
    if not is_name(name):
        return None
    if kind in KINDS:
        return name, kind
    tags = kind.split("/")
    return (name, tuple(tags)) if all([is_name(tag) for tag in tags]) else None


def _read_step(words):
    if words[0] not in READERS:
        return None
    reader = READERS[words[0]]
    return reader(words)


def _are_columns(words, least):
    return len(words) >= least and all([is_column(word) for word in words])


def _read_keep(words):
    try:
        return "keep", read_test(" ".join(words[1:]))
    except InvalidTest:
        return None


def _read_join(words):
    if len(words) != 3 or not is_name(words[1]) or not is_column(words[2]):
        return None
    return tuple(words)


def _read_sort(words):
    return tuple(words) if len(words) == 2 and is_column(words[1]) else None


def _read_once(words):
    return ("once", tuple(words[1:])) if _are_columns(words[1:], 1) else None


def _read_near(words):
    if len(words) < 3 or words[1] not in WAYS or not is_name(words[2]) or not _are_columns(words[3:], 0):
        return None
    return "near", words[2], words[1], tuple(words[3:])


def _read_all(words):
    if len(words) < 2 or not is_name(words[1]) or not _are_columns(words[2:], 0):
        return None
    return "all", words[1], tuple(words[2:])


def _read_twice(words):
    numbers = _read_numbers(words[1:])
    return ("twice", numbers[0]) if len(numbers) == 1 else None


def _read_cut(words):
    if len(words) < 2 or words[1] not in CUTS:
        return None
    reader = CUTS[words[1]]
    return reader(words[2:])


def read_number(word):
    """The number that a word writes, or None."""
    digits = word[1:] if word.startswith("-") else word
    if not 1 <= len(digits) <= MOST_DIGITS or not all([digit in DIGITS for digit in digits]):
        return None
    # Of the numbers that begin with 0 only the 0 itself is written, and without a sign.
    if digits.startswith("0") and word != "0":
        return None
    return int(word)


def _read_numbers(words):
    """The list of the numbers that these words write, empty if one of them is none."""
    numbers = [read_number(word) for word in words]
    return [] if None in numbers else numbers


def _read_rests(modulus, rests):
    """The modulus and the tuple of the rests, or the empty tuple."""
    numbers = _read_numbers([modulus, *rests.split(",")])
    return (numbers[0], tuple(numbers[1:])) if len(numbers) > 0 else ()


def _read_rounds(words):
    rests = _read_rests(words[0], words[1]) if len(words) == 2 else ()
    return ("cut", "rounds", *rests) if len(rests) > 0 else None


def _read_throw(words):
    return ("cut", "throw") if len(words) == 0 else None


def _read_mark(words):
    return _read_by_columns("mark", words)


def _read_groups(words):
    return _read_by_columns("groups", words)


def _read_by_columns(form, words):
    rests = _read_rests(words[0], words[1]) if len(words) > 2 else ()
    if len(rests) == 0 or not _are_columns(words[2:], 1):
        return None
    return "cut", form, tuple(words[2:]), rests[0], rests[1]


def _read_before(words):
    if len(words) != 2 or not is_column(words[0]):
        return None
    limit = read_number(words[1])
    return None if limit is None else ("cut", "before", words[0], limit)


def _read_share(words):
    numbers = _read_numbers(words)
    return ("cut", "share", numbers[0], numbers[1]) if len(numbers) == 2 else None


CUTS = {
    "rounds": _read_rounds,
    "throw": _read_throw,
    "mark": _read_mark,
    "before": _read_before,
    "share": _read_share,
    "groups": _read_groups,
}

READERS = {
    "keep": _read_keep,
    "join": _read_join,
    "left": _read_join,
    "sort": _read_sort,
    "once": _read_once,
    "near": _read_near,
    "all": _read_all,
    "twice": _read_twice,
    "fan": _read_join,
    "cut": _read_cut,
}
