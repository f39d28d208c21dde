"""Whether a program splits a thing: tables that show it, or what the cut cannot part."""

from bothlots.errors import InvalidThing
from bothlots.joins import is_thing
from bothlots.papers import Paper, copied, is_listed, is_words
from bothlots.rules import forced, last_looks, parts, signs
from bothlots.runs import Run
from bothlots.tables import Tables
from bothlots.witness import pair_scene, shown
from bothlots.words import LOTS


class Split(Paper):
    """Tables and a setting by which a thing stands in both lots."""

    def __init__(self, program, thing, tables, setting):
        super().__init__(program)
        self._thing = thing
        self._tables = copied(tables)
        self._setting = setting

    @property
    def basis(self):
        """The program."""
        return self._program

    @property
    def thing(self):
        """The thing."""
        return self._thing

    @property
    def tables(self):
        """The tables."""
        return copied(self._tables)

    @property
    def setting(self):
        """The setting."""
        return self._setting

    def told(self):
        """What the paper tells, in one word."""
        return "split"

    def run(self):
        """The run that shows it."""
        return Run(self._program, self._tables, self._setting)

    def holds(self):
        """Whether the run has rows in both lots that are alike in the thing."""
        if not isinstance(self._tables, Tables) or not self._tables.basis == self._program:
            return False
        return self.run().alike(self._thing) is not None

    def __bool__(self):
        return True

    def __repr__(self):
        return f"Paper({self.told()})"


class Whole(Paper):
    """For each two last looks columns in which rows that are alike in a thing agree and that the cut does not part."""

    def __init__(self, program, thing, meets):
        super().__init__(program)
        self._thing = thing
        self._meets = copied(meets)

    @property
    def basis(self):
        """The program."""
        return self._program

    @property
    def thing(self):
        """The thing."""
        return self._thing

    @property
    def meets(self):
        """The list of the tuples of two looks and agreed columns."""
        return copied(self._meets)

    def told(self):
        """What the paper tells, in one word."""
        return "whole"

    def holds(self):
        """Whether each two last looks that can be alike in the thing have such columns."""
        if not is_listed(self._meets):
            return False
        # Items of another form do not matter, and would not all do as keys.
        agreements = {}
        for item in self._meets:
            if _is_meet(item):
                agreements.setdefault((item[0], item[1]), []).append(item[2])
        for look, other, columns in meetings(self._program, self._thing):
            found = agreements.get((look, other), [])
            if not any([_keeps_together(self._program, agreed, columns) for agreed in found]):
                return False
        return True

    def __bool__(self):
        return False

    def __repr__(self):
        return f"Paper({self.told()})"


def _is_meet(value):
    if not isinstance(value, tuple) or len(value) != 3:
        return False
    return all([is_words(part) for part in value])


def _keeps_together(program, agreed, columns):
    """Whether these agreed columns are among the ones that are forced, and the cut does not part by them."""
    return all([column in columns for column in agreed]) and not parts(program, agreed)


def meetings(program, thing):
    """The list of the tuples (look, other, forced columns) of each two last looks that can be alike in a thing."""
    lasts = [look for look in last_looks(program) if not _lacks(program, look, thing)]
    found = []
    for look in lasts:
        for other in lasts:
            columns = forced(program, look, other, thing)
            if columns is not None:
                found.append((look, other, columns))
    return found


def _lacks(program, look, thing):
    """Whether a row with this look has None in a column of a thing."""
    alone = [sign for sign, told in zip(signs(program), look) if told == "no"]
    return any([column.partition(".")[0] in alone for column in thing])


def split(program, thing):
    """A right paper that tells whether a program splits a thing."""
    if not is_thing(program, thing):
        raise InvalidThing(thing)
    found = meetings(program, thing)
    for look, other, columns in found:
        if parts(program, columns):
            scene, places = pair_scene(program, look, other, columns)
            tables, setting = shown(program, scene, places, LOTS, lambda run: run.alike(thing) is not None)
            return Split(program, thing, tables, setting)
    return Whole(program, thing, [(look, other, tuple(columns)) for look, other, columns in found])
