"""What the steps of a program do to the rows, and which lots a cut puts them into."""

from bothlots.checks import holds
from bothlots.joins import side_named
from bothlots.words import LOTS


class Row:
    """A row on its way through the steps.

    `source` is the index of its own row. `cells` are its values by columns, and True or False by the names of the
    sides that were joined. `hangs` has for each worth the rows of the main table on which it hangs, as a number with
    a bit for each of them.
    """

    def __init__(self, source, cells, hangs):
        self.source = source
        self.cells = cells
        self.hangs = hangs

    def values_in(self, columns):
        """The tuple of the values in some columns."""
        return tuple([self.cells[column] for column in columns])


def first_rows(program, tables):
    """The rows of the main table, ahead of all steps."""
    columns = [name for name, kind in program.main if kind != "worth"]
    worths = program.columns_of("worth")
    found = []
    for at, row in enumerate(tables.rows()):
        found.append(Row(at, dict(zip(columns, row)), {worth: 1 << at for worth in worths}))
    return found


def rows_at_cut(program, tables):
    """The rows of a program done with tables, ahead of the cut."""
    return rows_behind(program.steps[:program.cut_at], first_rows(program, tables), tables)


def rows_behind(steps, rows, tables):
    """The rows behind some steps, none of which is a cut."""
    for step in steps:
        action = ACTIONS[step[0]]
        rows = action(step, rows, tables)
    return rows


def lots_at(program, rows, setting):
    """The list of the lots of the rows at the cut."""
    cut = program.step(program.cut_at)
    judged = JUDGED[cut[1]]
    return [LOTS[1] if chosen else LOTS[0] for chosen in judged(cut, rows, setting)]


def _keep(step, rows, tables):
    return [row for row in rows if holds(step[1], row.cells)]


def _join(step, rows, tables):
    return [row for row in _left(step, rows, tables) if row.cells[step[1]]]


def _left(step, rows, tables):
    side, column = step[1], step[2]
    names = _side_names(side, tables)
    partners = {partner[0]: partner[1:] for partner in tables.side(side)}
    # None is no handle, so a row with None there has no partner.
    return [_partnered(row, side, names, partners.get(row.cells[column])) for row in rows]


def _fan(step, rows, tables):
    side, column = step[1], step[2]
    names = _side_names(side, tables)
    partners = {}
    for partner in tables.side(side):
        partners.setdefault(partner[0], []).append(partner[1:])
    found = []
    for row in rows:
        for values in partners.get(row.cells[column], []):
            found.append(_partnered(row, side, names, values))
    return found


def _side_names(side, tables):
    return [f"{side}.{name}" for name, kind in side_named(tables.basis, side)[2]]


def _partnered(row, side, names, values):
    """A row with the values of its partner, or with None in their places."""
    cells = dict(row.cells)
    cells[side] = values is not None
    for at, name in enumerate(names):
        cells[name] = None if values is None else values[at]
    return Row(row.source, cells, row.hangs)


def _twice(step, rows, tables):
    return [row for row in rows for _ in range(step[1])]


def _sort(step, rows, tables):
    # The index in the pairs keeps the order of rows with equal ticks.
    order = sorted([(row.cells[step[1]], at) for at, row in enumerate(rows)])
    return [rows[at] for _, at in order]


def _once(step, rows, tables):
    seen = {}
    for row in rows:
        seen.setdefault(row.values_in(step[1]), row)
    return list(seen.values())


def _near(step, rows, tables):
    worth, way, columns = step[1], step[2], step[3]
    order = rows if way == "last" else rows[::-1]
    nearest = {}
    found = []
    for row in order:
        key = row.values_in(columns)
        found.append(_hung(row, worth, nearest.get(key, 0)))
        nearest[key] = row.hangs[worth]
    return found if way == "last" else found[::-1]


def _all(step, rows, tables):
    worth, columns = step[1], step[2]
    together = {}
    for row in rows:
        key = row.values_in(columns)
        together[key] = together.get(key, 0) | row.hangs[worth]
    return [_hung(row, worth, together[row.values_in(columns)]) for row in rows]


def _hung(row, worth, more):
    """A row with a worth that hangs on some rows more."""
    hangs = dict(row.hangs)
    hangs[worth] = hangs[worth] | more
    return Row(row.source, row.cells, hangs)


ACTIONS = {
    "keep": _keep,
    "join": _join,
    "left": _left,
    "sort": _sort,
    "once": _once,
    "near": _near,
    "all": _all,
    "twice": _twice,
    "fan": _fan,
}


def _by_rounds(cut, rows, setting):
    return [at % cut[2] in cut[3] for at in range(len(rows))]


def _by_throw(cut, rows, setting):
    return [setting.throw(at) == 1 for at in range(len(rows))]


def _by_mark(cut, rows, setting):
    return [setting.mark(row.values_in(cut[2])) % cut[3] in cut[4] for row in rows]


def _by_before(cut, rows, setting):
    return [row.cells[cut[2]] >= cut[3] for row in rows]


def _by_share(cut, rows, setting):
    border = len(rows) * cut[2] // cut[3]
    return [at >= border for at in range(len(rows))]


def _by_groups(cut, rows, setting):
    numbers = {}
    for row in rows:
        numbers.setdefault(row.values_in(cut[2]), len(numbers))
    return [numbers[row.values_in(cut[2])] % cut[3] in cut[4] for row in rows]


JUDGED = {
    "rounds": _by_rounds,
    "throw": _by_throw,
    "mark": _by_mark,
    "before": _by_before,
    "share": _by_share,
    "groups": _by_groups,
}
