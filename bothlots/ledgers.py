"""Ledgers: rows that are dealt to the lots as they come, so that rows that hang together stay together."""

from bothlots.bonds import Bonds
from bothlots.errors import (Full, InvalidRow, InvalidThing, InvalidWord, NothingLeft, SideTaken, TooMany, Torn,
                             UnknownRow)
from bothlots.joins import MOST_OF_THING
from bothlots.words import LOTS, is_name, is_number


class Ledger:
    """Rows in two lots, for some things; rows that are alike in a thing are always in one lot."""

    MOST = 200
    MOST_THINGS = 4

    def __init__(self, *things):
        for thing in things:
            if not _is_thing(thing):
                raise InvalidThing(thing)
        if len(things) > Ledger.MOST_THINGS:
            raise TooMany(Ledger.MOST_THINGS)
        if len(things) == 0:
            raise InvalidThing(None)
        self._things = list(things)
        self._rows = []
        self._sides = []
        # The pairs of a row and its lot that were undone, the last one undone at the end.
        self._undone = []

    def offer(self, row):
        """The lot that a row would have to take, or None."""
        if not _is_row(row):
            raise InvalidRow("", len(self._rows))
        marks = self._marks_of(row)
        alike = [number for number, elder in enumerate(self._rows) if _has_one(self._marks_of(elder), marks)]
        learns = [number for number in alike if self._sides[number] == LOTS[0]]
        judges = [number for number in alike if self._sides[number] == LOTS[1]]
        if len(learns) > 0 and len(judges) > 0:
            raise Torn(learns[0], judges[0])
        return self._sides[alike[0]] if len(alike) > 0 else None

    def add(self, row, *, side=None):
        """Put a row into a lot, and tell which one."""
        if side is not None and side not in LOTS:
            raise InvalidWord(side)
        if len(self._rows) >= Ledger.MOST:
            raise Full(Ledger.MOST)
        due = self.offer(row)
        if due is None:
            taken = self._emptier() if side is None else side
        elif side is None or side == due:
            taken = due
        else:
            raise SideTaken(due)
        self._rows.append(dict(row))
        self._sides.append(taken)
        self._undone = []
        return taken

    def _emptier(self):
        return LOTS[1] if self.tally(LOTS[1]) < self.tally(LOTS[0]) else LOTS[0]

    def _marks_of(self, row):
        """What a row has in common with the rows that are alike with it."""
        found = {}
        for at, thing in enumerate(self._things):
            if all([field in row for field in thing]):
                found[(at, tuple([row[field] for field in thing]))] = True
        return found

    def things(self):
        """The list of the things."""
        return list(self._things)

    def row(self, number):
        """A copy of a row."""
        self._check_number(number)
        return dict(self._rows[number])

    def side(self, number):
        """The lot of a row."""
        self._check_number(number)
        return self._sides[number]

    def _check_number(self, number):
        if not is_number(number, 0, len(self._rows) - 1):
            raise UnknownRow(number)

    def group(self, number):
        """The ascending list of the rows that hang together with a row."""
        self._check_number(number)
        return self._bonds().group(number)

    def chain(self, one, other):
        """The least one of the shortest lists from one row to another in which neighbours are alike, or None."""
        self._check_number(one)
        self._check_number(other)
        return self._bonds().chain(one, other)

    def _bonds(self):
        return Bonds({number: self._marks_of(row) for number, row in enumerate(self._rows)})

    def tally(self, lot):
        """The number of the rows of a lot."""
        if lot not in LOTS:
            raise InvalidWord(lot)
        return self._sides.count(lot)

    def walk(self, lot):
        """A generator of the numbers of the rows of a lot, ascending."""
        if lot not in LOTS:
            raise InvalidWord(lot)
        numbers = [number for number, taken in enumerate(self._sides) if taken == lot]
        for number in numbers:
            yield number

    def undo(self):
        """Take back the last add."""
        if len(self._rows) == 0:
            raise NothingLeft()
        self._undone.append((self._rows.pop(), self._sides.pop()))

    def redo(self):
        """Make the add again that was taken back last."""
        if len(self._undone) == 0:
            raise NothingLeft()
        row, lot = self._undone.pop()
        self._rows.append(row)
        self._sides.append(lot)

    def history(self):
        """The pair of the numbers of adds that can be undone and redone."""
        return len(self._rows), len(self._undone)

    def twin(self):
        """An independent ledger in the same state."""
        other = Ledger(*self._things)
        # Rows are never changed, so both may hold the same ones.
        other._rows = list(self._rows)
        other._sides = list(self._sides)
        other._undone = list(self._undone)
        return other

    def __getitem__(self, number):
        return self.side(number)

    def __iter__(self):
        raise TypeError("a ledger is walked lot by lot")

    def __eq__(self, other):
        return (isinstance(other, Ledger) and self._things == other._things and self._rows == other._rows
                and self._sides == other._sides)

    def __len__(self):
        return len(self._rows)

    def __repr__(self):
        return f"Ledger({self._sides.count(LOTS[0])} learn, {self._sides.count(LOTS[1])} judge)"


def _is_thing(value):
    """Whether any value is a thing: a tuple of 1 to 3 different names."""
    if not isinstance(value, tuple) or not 1 <= len(value) <= MOST_OF_THING:
        return False
    return all([is_name(name) for name in value]) and len(set(value)) == len(value)


def _is_row(value):
    """Whether any value is a row: a dict from names to names."""
    if not isinstance(value, dict):
        return False
    return all([is_name(field) and is_name(value[field]) for field in value])


def _has_one(marks, others):
    return any([mark in others for mark in marks])
