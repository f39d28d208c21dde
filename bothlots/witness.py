"""Tables that are made to show something: a few rows that matter, and others that shift them to their places."""

from bothlots.doing import rows_at_cut
from bothlots.joins import fanned_side, joined_sides
from bothlots.rules import signs
from bothlots.runs import Run
from bothlots.tables import Setting, Tables
from bothlots.words import LETTERS, LOTS

# With more and more rows behind the others the border of a "share" passes every place of the rows that matter.
MOST_BEHIND = 13


class Names:
    """Hands out new names."""

    def __init__(self):
        self._used = 0

    def fresh(self):
        """A name that was not handed out yet."""
        left = self._used
        self._used += 1
        name = LETTERS[left % len(LETTERS)]
        while left >= len(LETTERS):
            left = left // len(LETTERS) - 1
            name = LETTERS[left % len(LETTERS)] + name
        return name


class Scene:
    """The rows that matter, each one as a dict from signs and columns to values.

    Further rows have a last look, new names, and ticks outside of the span of the rows that matter. So they come to
    the cut, ahead of all these rows or behind them, and no row that matters is changed by them.
    """

    def __init__(self, program, last_look):
        self._program = program
        self._last_look = last_look
        self._names = Names()
        self._joined = joined_sides(program)
        self._fan = fanned_side(program)
        self._actors = []
        self._partners = []

    def cast(self, look, elder=None, agreed=()):
        """The values of a row with a look, with the names of an elder row in the agreed columns, and without ticks."""
        found = dict(zip(signs(self._program), look))
        lacking = [name for side, _, columns in self._joined for name, _ in columns if found[side] == "no"]
        for column in self._program.columns_of("name"):
            if column in lacking:
                found[column] = None
            elif elder is not None and column in agreed:
                found[column] = elder[column]
            else:
                found[column] = self._names.fresh()
        return found

    def put(self, cells):
        """Put a row of the main table behind the others."""
        self._actors.append(cells)

    def put_partner(self, cells):
        """Put the row of the side of the fan that these values tell behind the others."""
        self._partners.append(cells)

    def built(self, ahead, behind):
        """The tables with so many further rows ahead of the rows that matter, and behind them."""
        ticks = [cells[tick] for cells in self._actors for tick in self._program.columns_of("tick")]
        low, high = (min(ticks), max(ticks)) if len(ticks) > 0 else (0, 0)
        first = [self._further(low - ahead + at) for at in range(ahead)]
        last = [self._further(high + 1 + at) for at in range(behind)]
        actors = first + self._actors + last
        columns = [name for name, kind in self._program.main if kind != "worth"]
        rows = [tuple([cells[column] for column in columns]) for cells in actors]
        sides = {}
        for side, column, named in self._joined:
            found = {cells[column]: _side_row(cells, column, named) for cells in actors if cells[side] == "yes"}
            sides[side] = list(found.values())
        if self._fan is not None:
            side, column, named = self._fan
            sides[side] = [_side_row(cells, column, named) for cells in first + self._partners + last]
        return Tables(self._program, rows, sides)

    def _further(self, tick):
        cells = self.cast(self._last_look)
        for column in self._program.columns_of("tick"):
            cells[column] = tick
        return cells


def _side_row(cells, column, named):
    return (cells[column], *[cells[name] for name, kind in named])


def pair_scene(program, look, other, columns):
    """The scene with two rows of these looks that agree in these columns alone, and their places."""
    scene = Scene(program, look)
    one = scene.cast(look)
    two = scene.cast(other, one, columns)
    for tick in program.columns_of("tick"):
        one[tick], two[tick] = _two_ticks(program, tick, tick in columns)
    scene.put(one)
    scene.put_partner(one)
    scene.put_partner(two)
    if "own" in columns:
        return scene, [0, 0]
    scene.put(two)
    return scene, [0, 1]


def _two_ticks(program, tick, agreed):
    """The ticks of the two rows in a column; if the cut asks for it, the limit lies between them."""
    cut = program.step(program.cut_at)
    high = cut[3] if cut[1] == "before" and cut[2] == tick else 0
    return (high, high) if agreed else (high - 1, high)


def shown(program, scene, places, lots, found):
    """Tables and a setting by which a run shows what a function of runs asks for.

    The places are those of two rows that matter, in the main table; lots are those into which they shall come.
    """
    cut = program.step(program.cut_at)
    for ahead, behind in _shifts(cut):
        tables = scene.built(ahead, behind)
        setting = _setting(program, tables, [ahead + place for place in places], lots)
        if found(Run(program, tables, setting)):
            break
    return tables, setting


def _shifts(cut):
    """The numbers of further rows ahead and behind that are to be tried for a cut."""
    if cut[1] == "rounds":
        return [(ahead, 0) for ahead in range(cut[2])]
    if cut[1] == "groups":
        return [(ahead, 0) for ahead in range(cut[3])]
    if cut[1] == "share":
        return [(0, behind) for behind in range(MOST_BEHIND)]
    return [(0, 0)]


def _setting(program, tables, owns, lots):
    """The setting that puts rows of two rows of the main table into these lots, where the cut looks at one."""
    cut = program.step(program.cut_at)
    rows = rows_at_cut(program, tables)
    firsts = [at for at, row in enumerate(rows) if row.source == owns[0]]
    lasts = [at for at, row in enumerate(rows) if row.source == owns[1]]
    if cut[1] == "throw":
        judged = firsts[0] if lots[0] == LOTS[1] else lasts[-1]
        return Setting(throws=[1 if at == judged else 0 for at in range(len(rows))])
    if cut[1] == "mark":
        for one in firsts:
            for two in lasts:
                values = (rows[one].values_in(cut[2]), rows[two].values_in(cut[2]))
                if values[0] != values[1]:
                    return Setting({values[0]: _mark(cut, lots[0]), values[1]: _mark(cut, lots[1])})
    return Setting()


def _mark(cut, lot):
    """The least mark that puts values into a lot."""
    return [mark for mark in range(cut[3]) if (mark in cut[4]) == (lot == LOTS[1])][0]
