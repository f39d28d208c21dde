"""Tables: the rows of a main table and of its sides; settings: the marks and throws of a run."""

from bothlots.errors import InvalidNumber, InvalidRow, InvalidSetting, UnknownName
from bothlots.words import is_name, is_number


class Tables:
    """The rows of the main table and of the sides of a program; they never change."""

    def __init__(self, program, rows, sides=None):
        self._program = program
        given = {} if sides is None else sides
        self._rows = list(rows)
        self._check_main()
        self._others = {}
        for side in program.sides:
            self._others[side[0]] = list(given.get(side[0], []))
            self._check_side(side)
        for name in given:
            if name not in self._others:
                raise InvalidRow(name, 0)

    def _check_main(self):
        columns = [(name, kind) for name, kind in self._program.main if kind != "worth"]
        names = [name for name, kind in columns]
        places = [names.index(name) for name in self._program.unique]
        kinds = [kind for name, kind in columns]
        seen = {}
        for at, row in enumerate(self._rows):
            if not _is_row(row, kinds):
                raise InvalidRow("", at)
            key = tuple([row[place] for place in places])
            if len(key) > 0 and key in seen:
                raise InvalidRow("", at)
            seen[key] = True

    def _check_side(self, side):
        name, how, columns = side
        kinds = ["name"] + [kind for _, kind in columns]
        handles = {}
        for at, row in enumerate(self._others[name]):
            if not _is_row(row, kinds) or (how == "one" and row[0] in handles):
                raise InvalidRow(name, at)
            handles[row[0]] = True

    @property
    def basis(self):
        """The program."""
        return self._program

    def rows(self):
        """The list of the rows of the main table."""
        return list(self._rows)

    def side(self, name):
        """The list of the rows of a side."""
        if not isinstance(name, str) or name not in self._others:
            raise UnknownName(name)
        return list(self._others[name])

    def with_rows(self, *rows):
        """The tables with these rows behind the others."""
        return Tables(self._program, self._rows + list(rows), self._others)

    def with_row(self, row, *, at=None):
        """The tables with a row put in at a place, None for the end."""
        place = len(self._rows) if at is None else at
        if not is_number(place, 0, len(self._rows)):
            raise InvalidNumber(at)
        return Tables(self._program, [*self._rows[:place], row, *self._rows[place:]], self._others)

    def __eq__(self, other):
        return (isinstance(other, Tables) and self._program == other._program and self._rows == other._rows
                and self._others == other._others)

    def __len__(self):
        return len(self._rows)

    def __repr__(self):
        return f"Tables({len(self._rows)} rows)"


def _is_row(value, kinds):
    """Whether any value is a tuple with a value for each of these kinds."""
    if not isinstance(value, tuple) or len(value) != len(kinds):
        return False
    return all([_is_value(item, kind) for item, kind in zip(value, kinds)])


def _is_value(item, kind):
    if kind == "name":
        return is_name(item)
    if kind == "tick":
        return isinstance(item, int) and not isinstance(item, bool)
    return item in kind


class Setting:
    """The marks of values and the throws of places; it never changes."""

    def __init__(self, marks=None, *, throws=()):
        self._marks = {}
        if marks is not None:
            for told in marks:
                self._marks[told] = marks[told]
        self._throws = list(throws)
        for given in self._throws:
            if not is_number(given, 0, 1):
                raise InvalidSetting(given)

    def mark(self, values):
        """The number for a tuple of values, 0 if it is lacking."""
        return self._marks.get(values, 0)

    def throw(self, place):
        """The throw for a place, 0 behind the last one."""
        return self._throws[place] if place < len(self._throws) else 0
