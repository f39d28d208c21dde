"""Columns that are settled by things, and rows of a run that hang together by things."""

from bothlots.bonds import Bonds
from bothlots.errors import InvalidThing
from bothlots.joins import is_thing
from bothlots.touches import meetings


def settled(program, *things):
    """The ascending list of the columns in which rows that are alike in any one of the things always agree."""
    _check_things(program, things)
    found = sorted(program.columns())
    for thing in things:
        for _, _, columns in meetings(program, thing):
            found = [column for column in found if column in columns]
    return found


def parting(run, *things):
    """The list of the lists of rows of the main table that are put together by things."""
    _check_things(run.basis, things)
    return _bonds(run, things).groups()


def chain(run, one, other, *things):
    """The shortest list of rows of the main table from one to the other by things, or None."""
    run.check_own(one)
    run.check_own(other)
    _check_things(run.basis, things)
    return _bonds(run, things).chain(one, other)


def _check_things(program, things):
    for thing in things:
        if not is_thing(program, thing):
            raise InvalidThing(thing)
    if len(things) == 0:
        raise InvalidThing(None)


def _bonds(run, things):
    """The rows of the main table that have rows at the cut, with what these have in the things."""
    marked = {}
    for at, thing in enumerate(things):
        for own, values in run.values_at_cut(thing):
            marked.setdefault(own, {})
            if None not in values:
                marked[own][(at, values)] = True
    return Bonds(marked)
