"""What follows in a program: settled columns, looks, what two looks force, and whom the cut parts."""

from bothlots.checks import holds
from bothlots.errors import UnknownColumn
from bothlots.follow import Follow
from bothlots.joins import doubles, fanned_side, joined_sides


def settles(program, columns):
    """The ascending list of these columns and of what follows from them."""
    for column in columns:
        if column != "own" and column not in program:
            raise UnknownColumn(column)
    follow = Follow(program)
    return follow.told(follow.closed(follow.mask(columns)))


def _tag_columns(columns):
    return [(name, kind) for name, kind in columns if isinstance(kind, tuple)]


def signs(program):
    """The list of the signs of a program."""
    return own_signs(program) + fan_signs(program)


def own_signs(program):
    """The list of the signs without those of the fan."""
    found = [name for name, kind in _tag_columns(program.main)]
    for side, _, columns in joined_sides(program):
        found.append(side)
        found = found + [name for name, kind in _tag_columns(columns)]
    return found


def fan_signs(program):
    """The list of the signs of the fan."""
    fan = fanned_side(program)
    return [] if fan is None else [name for name, kind in _tag_columns(fan[2])]


def looks(program):
    """The list of the looks of a program; the sign that stands last changes first."""
    return [own + more for own in own_looks(program) for more in _tagged(fan_kinds(program))]


def fan_kinds(program):
    """The list of the columns of tags of the side of the fan, with their tags."""
    fan = fanned_side(program)
    return [] if fan is None else _tag_columns(fan[2])


def own_looks(program):
    """The list of the own looks, in the order of the looks."""
    found = _tagged(_tag_columns(program.main))
    ahead = [name for name, kind in _tag_columns(program.main)]
    for side, column, columns in joined_sides(program):
        tagged = _tag_columns(columns)
        with_partner = [("yes", *tags) for tags in _tagged(tagged)]
        without = ("no", *[None for _ in tagged])
        grown = []
        for look in found:
            row = dict(zip(ahead, look))
            # A column of a side without a partner is None, which is no handle.
            grown = grown + ([] if row.get(_side_of(column)) == "no" else [look + more for more in with_partner])
            grown.append(look + without)
        found = grown
        ahead = ahead + [side] + [name for name, kind in tagged]
    return found


def _tagged(columns):
    """The list of the tuples of tags for some columns of tags."""
    found = [()]
    for _, kind in columns:
        found = [(*tags, tag) for tags in found for tag in kind]
    return found


def _side_of(column):
    """The side of a column of a side; for a column of the main table itself, which is no side."""
    return column.partition(".")[0]


def as_row(program, look):
    """A look as a dict from its signs, with True and False for the sides."""
    sides = [side for side, _, _ in joined_sides(program)]
    return {sign: told == "yes" if sign in sides else told for sign, told in zip(signs(program), look)}


def reaches(program, look, at):
    """Whether a look reaches the step with an index, or the end."""
    row = as_row(program, look)
    for step in program.steps[:at]:
        if step[0] == "keep" and not holds(step[1], row):
            return False
        if step[0] == "join" and not row[step[1]]:
            return False
        if step[0] == "fan" and row.get(_side_of(step[2])) is False:
            return False
    return True


def last_looks(program):
    """The list of the looks that reach the cut."""
    return [look for look in looks(program) if reaches(program, look, program.cut_at)]


def forced(program, look, other, columns):
    """The ascending list of the columns that two looks and some columns force, or None for a contradiction."""
    follow = Follow(program)
    found = follow.forced(follow.compared(signs(program), look, other), follow.mask(columns))
    return None if found is None else follow.told(found)


def parts(program, columns):
    """Whether the cut parts two rows that agree in these columns alone."""
    cut = program.step(program.cut_at)
    same = "own" in columns
    if same and not doubles(program):
        return False
    if cut[1] in ("mark", "groups"):
        return not all([column in columns for column in cut[2]])
    if cut[1] == "before":
        return not same and cut[2] not in columns
    if not same or cut[1] != "rounds" or fanned_side(program) is not None:
        return True
    return True in mixed_blocks(program)


def mixed_blocks(program):
    """For "rounds" the list of whether the copies of a row have places in both lots, for each block of places in turn.

    Each "twice" ahead of the cut makes the blocks longer. Behind the last block of the list the first one comes again.
    """
    _, _, modulus, rests = program.step(program.cut_at)
    found = []
    for k in range(modulus):
        judged = [(program.many * k + more) % modulus in rests for more in range(program.many)]
        found.append(True in judged and False in judged)
    return found
