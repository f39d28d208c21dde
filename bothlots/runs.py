"""Runs: a program done with tables."""

from bothlots.doing import lots_at, rows_at_cut, rows_behind
from bothlots.errors import InvalidThing, InvalidWord, OtherProgram, UnknownColumn, UnknownRow
from bothlots.joins import is_thing
from bothlots.tables import Setting, Tables
from bothlots.words import LOTS, is_number


class Run:
    """A program done with tables and a setting; it never changes."""

    def __init__(self, program, tables, setting=None):
        if not isinstance(tables, Tables) or not tables.basis == program:
            raise OtherProgram()
        self._program = program
        self._own_rows = len(tables)
        self._ahead = rows_at_cut(program, tables)
        lots = lots_at(program, self._ahead, Setting() if setting is None else setting)
        self._at_cut = [(row.source, lot) for row, lot in zip(self._ahead, lots)]
        # Behind the cut the steps see the rows of one lot alone.
        behind = program.steps[program.cut_at + 1:]
        learn = rows_behind(behind, _rows_of(LOTS[0], self._ahead, lots), tables)
        self._learn = len(learn)
        self._last = learn + rows_behind(behind, _rows_of(LOTS[1], self._ahead, lots), tables)

    @property
    def basis(self):
        """The program."""
        return self._program

    def at_cut(self):
        """The list of the pairs (own, lot) of the rows at the cut."""
        return list(self._at_cut)

    def rows(self):
        """The list of the pairs (own, lot) of the last rows."""
        return [(row.source, self._lot_of(number)) for number, row in enumerate(self._last)]

    def _lot_of(self, number):
        return LOTS[0] if number < self._learn else LOTS[1]

    def lots(self, own, *, ended=True):
        """The ascending list of the lots in which a row of the main table has rows."""
        self.check_own(own)
        rows = self.rows() if ended else self._at_cut
        return sorted(set([lot for source, lot in rows if source == own]))

    def check_own(self, own):
        """UnknownRow(own) for any value that is no index of a row of the main table."""
        if not is_number(own, 0, self._own_rows - 1):
            raise UnknownRow(own)

    def values_at_cut(self, columns):
        """The list of the pairs (own, values in some columns) of the rows at the cut, in order."""
        return [(row.source, row.values_in(columns)) for row in self._ahead]

    def _check_number(self, number):
        if not is_number(number, 0, len(self._last) - 1):
            raise UnknownRow(number)

    def _check_worth(self, worth):
        if worth not in self._program.columns_of("worth"):
            raise UnknownColumn(worth)

    def value(self, number, column):
        """The value of a last row in a column."""
        self._check_number(number)
        if column not in self._program:
            raise UnknownColumn(column)
        return self._last[number].cells[column]

    def hangs_on(self, number, worth):
        """The ascending list of the indexes of the rows of the main table on which a worth of a last row hangs."""
        self._check_number(number)
        self._check_worth(worth)
        hung = self._last[number].hangs[worth]
        return [own for own in range(self._own_rows) if hung >> own & 1 == 1]

    def alike(self, thing):
        """The least pair of numbers of rows in learn and in judge that are alike in a thing, or None."""
        if not is_thing(self._program, thing):
            raise InvalidThing(thing)
        judges = {}
        for number in range(self._learn, len(self._last)):
            judges.setdefault(self._last[number].values_in(thing), number)
        for number in range(self._learn):
            values = self._last[number].values_in(thing)
            if values in judges and None not in values:
                return number, judges[values]
        return None

    def leak(self, worth, lot):
        """The least pair of a last row of a lot and a row of the main table with a last row in the other lot."""
        self._check_worth(worth)
        if lot not in LOTS:
            raise InvalidWord(lot)
        others = {source: True for source, its_lot in self.rows() if its_lot != lot}
        for number in range(len(self._last)):
            if self._lot_of(number) == lot:
                for own in self.hangs_on(number, worth):
                    if own in others:
                        return number, own
        return None

    def __len__(self):
        return len(self._last)

    def __repr__(self):
        return f"Run({self._learn} learn, {len(self._last) - self._learn} judge)"


def _rows_of(lot, rows, lots):
    return [row for row, its_lot in zip(rows, lots) if its_lot == lot]
