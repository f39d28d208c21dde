"""Programs: a main table, sides, and the steps that prepare the rows and cut them into lots."""

from bothlots.columns import columns_of_side, is_key, wrong_column, wrong_side
from bothlots.errors import InvalidColumn, InvalidKey, InvalidSide, InvalidStep, InvalidWord, TooMany
from bothlots.lines import read_lines, write_lines
from bothlots.steps import Standing
from bothlots.words import is_number


class Program:
    """A program of steps over a main table and its sides; it never changes."""

    MOST_STEPS = 12
    MOST_LOOKS = 24

    def __init__(self, main, steps, *, sides=(), unique=()):
        at = wrong_column(main)
        if at is not None:
            raise InvalidColumn(at)
        self._main = tuple(main)
        at = wrong_side(sides, main)
        if at is not None:
            raise InvalidSide(at)
        self._sides = tuple([(name, how, tuple(columns)) for name, how, columns in sides])
        if not is_key(unique, main):
            raise InvalidKey(unique)
        self._unique = unique
        self._take_steps(steps)
        if _count_looks(self._main, self._steps, self._sides) > Program.MOST_LOOKS:
            raise TooMany(Program.MOST_LOOKS)

    def _take_steps(self, steps):
        if not isinstance(steps, (list, tuple)):
            raise InvalidStep(0)
        standing = Standing(self._main, self._sides, self._unique)
        # The columns that the rows have ahead of each step.
        self._ahead = []
        for at, step in enumerate(steps):
            if not standing.takes(step):
                raise InvalidStep(at)
            self._ahead.append(list(standing.kinds))
            standing.take(step)
        if len(steps) > Program.MOST_STEPS or not standing.is_behind():
            raise InvalidStep(len(steps))
        self._steps = tuple(steps)
        self._cut_at = [step[0] for step in steps].index("cut")
        # No step behind the cut brings columns.
        self._kinds = standing.kinds
        self._many = 1
        for step in self._steps[:self._cut_at]:
            if step[0] == "twice":
                self._many = self._many * step[1]

    @staticmethod
    def read(text):
        """The program with a text."""
        main, unique, sides, steps = read_lines(text)
        return Program(main, steps, sides=sides, unique=unique)

    def text(self):
        """The text of the program, which `read` reads back."""
        return write_lines(self._main, self._unique, self._sides, self._steps)

    @property
    def main(self):
        """The tuple of the columns of the main table."""
        return self._main

    @property
    def steps(self):
        """The tuple of the steps."""
        return self._steps

    @property
    def sides(self):
        """The tuple of the sides."""
        return self._sides

    @property
    def unique(self):
        """The key, a tuple of columns."""
        return self._unique

    @property
    def cut_at(self):
        """The index of the cut."""
        return self._cut_at

    @property
    def many(self):
        """The product of the "twice" ahead of the cut."""
        return self._many

    def step(self, at):
        """The step with an index."""
        self._check_index(at)
        return self._steps[at]

    def _check_index(self, at):
        if not is_number(at, 0, len(self._steps) - 1):
            raise InvalidStep(at)

    def columns(self, at=None):
        """The list of the columns that the rows have ahead of a step, or ahead of the cut."""
        if at is None:
            return list(self._ahead[self._cut_at])
        self._check_index(at)
        return list(self._ahead[at])

    def columns_of(self, kind):
        """The list of the columns at the cut that are of a kind, or the worths."""
        if kind == "worth":
            return [name for name, other in self._main if other == "worth"]
        if kind == "tag":
            return [name for name in self._kinds if isinstance(self._kinds[name], tuple)]
        if kind not in ("name", "tick"):
            raise InvalidWord(kind)
        return [name for name in self._kinds if self._kinds[name] == kind]

    def __contains__(self, column):
        return isinstance(column, str) and column in self._kinds

    def __eq__(self, other):
        return (isinstance(other, Program) and self._main == other._main and self._sides == other._sides
                and self._unique == other._unique and self._steps == other._steps)

    def __len__(self):
        return len(self._steps)

    def __repr__(self):
        return f"Program({len(self._main)} columns, {len(self._steps)} steps)"


def _count_looks(main, steps, sides):
    """The product that bounds the looks of a program with these parts."""
    named = {side[0]: side for side in sides}
    product = _count_tags(main)
    for step in steps:
        if step[0] in ("join", "left"):
            product = product * (1 + _count_tags(columns_of_side(named[step[1]])))
        elif step[0] == "fan":
            product = product * _count_tags(columns_of_side(named[step[1]]))
    return product


def _count_tags(columns):
    product = 1
    for _, kind in columns:
        if isinstance(kind, tuple):
            product = product * len(kind)
    return product
