"""Whether a row of the main table can change its lot when one row more comes."""

from bothlots.errors import InvalidRow, InvalidWord
from bothlots.papers import Paper, copied
from bothlots.rules import last_looks, mixed_blocks
from bothlots.runs import Run
from bothlots.tables import Setting, Tables
from bothlots.witness import Scene
from bothlots.words import GROWTHS, is_number

# No cut has a modulus or a share of more than 12; with so many rows each of them moves some row.
MOST_ROWS = 40


class Moves(Paper):
    """Tables, a setting and a newcomer by which a row of the main table comes into a lot in which it had no row."""

    def __init__(self, program, growth, tables, setting, newcomer, place, own):
        super().__init__(program)
        self._growth = growth
        self._tables = copied(tables)
        self._setting = setting
        self._newcomer = copied(newcomer)
        self._place = copied(place)
        self._own = copied(own)

    @property
    def basis(self):
        """The program."""
        return self._program

    @property
    def growth(self):
        """The growth."""
        return self._growth

    @property
    def tables(self):
        """The tables without the newcomer."""
        return copied(self._tables)

    @property
    def setting(self):
        """The setting."""
        return self._setting

    @property
    def newcomer(self):
        """The row that comes."""
        return copied(self._newcomer)

    @property
    def place(self):
        """The index at which it comes into the main table."""
        return copied(self._place)

    @property
    def own(self):
        """The index of the row that moves, in the tables without the newcomer."""
        return copied(self._own)

    def told(self):
        """What the paper tells, in one word."""
        return "moves"

    def holds(self):
        """Whether the newcomer can come in there, and the row gets a lot by it."""
        if not isinstance(self._tables, Tables) or not self._tables.basis == self._program:
            return False
        longer = _longer(self._tables, self._growth, self._newcomer, self._place)
        if longer is None or not is_number(self._own, 0, len(self._tables) - 1):
            return False
        return self._own in _movers(self._tables, longer, self._setting, self._place)

    def __bool__(self):
        return True

    def __repr__(self):
        return f"Paper({self.told()})"


class Stays(Paper):
    """The reason why no row of the main table comes into a lot in which it had no row."""

    def __init__(self, program, growth, reason):
        super().__init__(program)
        self._growth = growth
        self._reason = copied(reason)

    @property
    def basis(self):
        """The program."""
        return self._program

    @property
    def growth(self):
        """The growth."""
        return self._growth

    @property
    def reason(self):
        """The reason, in one word."""
        return copied(self._reason)

    def told(self):
        """What the paper tells, in one word."""
        return "stays"

    def holds(self):
        """Whether this is the first reason that holds."""
        found = _reason_to_stay(self._program, self._growth)
        return found is not None and self._reason == found

    def __bool__(self):
        return False

    def __repr__(self):
        return f"Paper({self.told()})"


def _longer(tables, growth, newcomer, place):
    """The tables with any value as a newcomer at any value as a place, or None if it cannot come in there."""
    least = 0 if growth == "any" else len(tables)
    if not is_number(place, least, len(tables)):
        return None
    try:
        found = tables.with_row(newcomer, at=place)
    except InvalidRow:
        return None
    return None if growth == "late" and not _is_latest(tables, newcomer) else found


def _is_latest(tables, newcomer):
    """Whether a row has no tick that is less than that of another row in the same column."""
    kinds = [kind for name, kind in tables.basis.main if kind != "worth"]
    for at, kind in enumerate(kinds):
        if kind == "tick" and any([newcomer[at] < row[at] for row in tables.rows()]):
            return False
    return True


def _movers(tables, longer, setting, place):
    """The list of the rows of the main table that have at the cut a lot by the newcomer at this place alone."""
    before = Run(tables.basis, tables, setting)
    behind = Run(tables.basis, longer, setting)
    found = []
    for own in range(len(tables)):
        elder = before.lots(own, ended=False)
        newer = behind.lots(own + 1 if own >= place else own, ended=False)
        if not all([lot in elder for lot in newer]):
            found.append(own)
    return found


def _reason_to_stay(program, growth):
    """The first reason why a program does not move under a growth, or None if it moves."""
    cut = program.step(program.cut_at)
    if len(last_looks(program)) == 0:
        return "empty"
    if cut[1] in ("mark", "before"):
        return "values"
    if cut[1] == "share":
        return None
    if not _comes_ahead(program, growth):
        return "behind"
    if cut[1] == "rounds" and False not in mixed_blocks(program):
        return "rounds"
    return None


def _comes_ahead(program, growth):
    """Whether a newcomer can be ahead of other rows at the cut."""
    return growth == "any" or (growth == "end" and "sort" in [step[0] for step in program.steps])


def grown(program, kind):
    """A right paper that tells whether a program moves under a growth."""
    if kind not in GROWTHS:
        raise InvalidWord(kind)
    reason = _reason_to_stay(program, kind)
    return _shown(program, kind) if reason is None else Stays(program, kind, reason)


def _shown(program, growth):
    """A right paper of a program that moves; more and more rows are tried."""
    # For "throw" the first row is in learn, and in judge with a newcomer ahead of it; no other cut looks at these.
    setting = Setting(throws=[0] * program.many + [1] * program.many)
    scene = Scene(program, last_looks(program)[0])
    for many in range(2, MOST_ROWS):
        tables, newcomer, place = _parted(scene.built(0, many), growth)
        longer = tables.with_row(newcomer, at=place)
        movers = _movers(tables, longer, setting, place)
        if len(movers) > 0:
            return Moves(program, growth, tables, setting, newcomer, place, movers[0])
    return None


def _parted(tables, growth):
    """Tables of rows in the order of their ticks as those without one of the rows, this newcomer, and its place.

    The sides stay as they are, so they have partners for the newcomer, too.
    """
    program = tables.basis
    rows = tables.rows()
    sides = {side[0]: tables.side(side[0]) for side in program.sides}
    if program.step(program.cut_at)[1] == "share":
        newcomer = rows.pop()
        return Tables(program, rows, sides), newcomer, len(rows)
    newcomer = rows.pop(0)
    return Tables(program, rows, sides), newcomer, 0 if growth == "any" else len(rows)
