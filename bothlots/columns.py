"""The columns of a main table and of its sides, and the key of a main table."""

from bothlots.words import is_name

MOST_COLUMNS = 6
MOST_TICKS = 2
MOST_SIDES = 3
MOST_OF_SIDE = 3
MOST_TAGS = 3

# No tag is called like one of these kinds.
KINDS = ("name", "tick", "worth")


def is_tags(value):
    """Whether any value is a kind of tags: a tuple of different tags."""
    if not isinstance(value, tuple) or not 1 <= len(value) <= MOST_TAGS:
        return False
    if not all([is_name(tag) and tag not in KINDS for tag in value]):
        return False
    return len(set(value)) == len(value)


def is_column_of(value, kinds):
    """Whether any value is a pair of the name of a column and one of these kinds or tags."""
    if not isinstance(value, tuple) or len(value) != 2:
        return False
    name, kind = value
    # The word `own` stands for the row itself where columns are named.
    if not is_name(name) or name == "own":
        return False
    return kind in kinds or is_tags(kind)


def wrong_column(main):
    """The index that is told of a wrong main table, or None for a right one."""
    if not isinstance(main, (list, tuple)):
        return 0
    names = []
    for at, column in enumerate(main):
        if not is_column_of(column, KINDS) or column[0] in names:
            return at
        names.append(column[0])
    kinds = [kind for name, kind in main]
    if not 1 <= len(main) <= MOST_COLUMNS or "name" not in kinds or kinds.count("tick") > MOST_TICKS:
        return len(main)
    return None


def is_side(value):
    """Whether any value is a side: its name, `one` or `many`, and its columns."""
    if not isinstance(value, tuple) or len(value) != 3:
        return False
    name, how, columns = value
    if not is_name(name) or how not in ("one", "many") or not isinstance(columns, (list, tuple)):
        return False
    if not 1 <= len(columns) <= MOST_OF_SIDE or not all([is_column_of(column, ("name",)) for column in columns]):
        return False
    return len(set([column[0] for column in columns])) == len(columns)


def wrong_side(sides, main):
    """The index that is told of wrong sides of a right main table, or None for right ones."""
    if not isinstance(sides, (list, tuple)):
        return 0
    names = [name for name, kind in main]
    for at, side in enumerate(sides):
        if not is_side(side) or side[0] in names:
            return at
        names.append(side[0])
    return len(sides) if len(sides) > MOST_SIDES else None


def is_key(value, main):
    """Whether any value is a key of a right main table, or the empty tuple that stands for none."""
    if not isinstance(value, tuple):
        return False
    if len(value) == 0:
        return True
    kinds = {name: kind for name, kind in main if kind != "worth"}
    if not all([isinstance(column, str) and column in kinds for column in value]):
        return False
    return len(set(value)) == len(value) and any([is_anchor(kinds[column]) for column in value])


def is_anchor(kind):
    """Whether columns of this kind can have a new value for each row of a main table."""
    return kind in ("name", "tick")


def columns_of_side(side):
    """The list of the pairs of a column of a side, as rows call it, and its kind."""
    return [(f"{side[0]}.{name}", kind) for name, kind in side[2]]
