"""Tests of rows: their form, their text and whether they hold."""

from bothlots.errors import InvalidTest
from bothlots.words import is_column, is_name

DEEPEST = 6

# How many tests stand behind each first word that takes tests.
PARTS = {"not": 1, "and": 2, "or": 2}


def is_test(value):
    """Whether any value is a test, of any columns and sides."""
    return _is_test_within(value, DEEPEST)


def _is_test_within(value, deepest):
    # The bound goes first: it also ends the recursion for values of any depth.
    if deepest == 0 or not isinstance(value, tuple) or len(value) == 0:
        return False
    head, *rest = value
    # A list as the first item could not be looked up in PARTS.
    if not isinstance(head, str):
        return False
    if head in PARTS:
        return len(rest) == PARTS[head] and all([_is_test_within(part, deepest - 1) for part in rest])
    if head == "has":
        return len(rest) == 1 and is_name(rest[0])
    return head == "is" and len(rest) == 2 and is_column(rest[0]) and is_name(rest[1])


def test_text(test):
    """The text of a test in prefix form."""
    if test[0] in PARTS:
        return " ".join([test[0]] + [test_text(part) for part in test[1:]])
    return " ".join(test)


def read_test(text):
    """The test with a text; InvalidTest(text) for any value that is not the text of a test."""
    if not isinstance(text, str):
        raise InvalidTest(text)
    words = text.split(" ")
    found = _read_from(words, 0, DEEPEST)
    if found is None or found[1] != len(words):
        raise InvalidTest(text)
    return found[0]


def _read_from(words, start, deepest):
    """The test that begins with a word and the index behind its last word, or None."""
    if deepest == 0 or start == len(words):
        return None
    head = words[start]
    if head not in PARTS:
        return _read_leaf(words, start)
    test = (head,)
    end = start + 1
    for _ in range(PARTS[head]):
        found = _read_from(words, end, deepest - 1)
        if found is None:
            return None
        part, end = found
        test = (*test, part)
    return test, end


def _read_leaf(words, start):
    end = start + (3 if words[start] == "is" else 2)
    leaf = tuple(words[start:end])
    return (leaf, end) if is_test(leaf) else None


def holds(test, row):
    """Whether a test holds for a row, a dict from columns to tags or None and from sides to True or False."""
    head = test[0]
    if head == "is":
        return row.get(test[1]) == test[2]
    if head == "has":
        return row.get(test[1]) is True
    if head == "not":
        return not holds(test[1], row)
    if head == "and":
        return holds(test[1], row) and holds(test[2], row)
    return holds(test[1], row) or holds(test[2], row)
