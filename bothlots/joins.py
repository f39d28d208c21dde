"""What a program asks of its sides, and the things of a program."""

from bothlots.columns import columns_of_side

MOST_OF_THING = 3


def side_named(program, name):
    """The side of a program with a name."""
    return [side for side in program.sides if side[0] == name][0]


def joined_sides(program):
    """The list of the tuples (name of the side, joined column, columns of the side) of each "join" and "left"."""
    found = []
    for step in program.steps:
        if step[0] in ("join", "left"):
            found.append((step[1], step[2], columns_of_side(side_named(program, step[1]))))
    return found


def fanned_side(program):
    """The tuple (name of the side, joined column, columns of the side) of the "fan", or None."""
    for step in program.steps:
        if step[0] == "fan":
            return step[1], step[2], columns_of_side(side_named(program, step[1]))
    return None


def once_ahead(program):
    """The columns of the "once" ahead of the cut, none if there is none."""
    for step in program.steps[:program.cut_at]:
        if step[0] == "once":
            return step[1]
    return ()


def doubles(program):
    """Whether a program copies rows ahead of the cut."""
    return program.many > 1 or fanned_side(program) is not None


def is_thing(program, value):
    """Whether any value is a thing of a program."""
    if not isinstance(value, tuple) or not 1 <= len(value) <= MOST_OF_THING:
        return False
    names = program.columns_of("name")
    return all([name in names for name in value]) and len(set(value)) == len(value)
