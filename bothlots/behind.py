"""Moving steps behind the cut."""

from bothlots.errors import InvalidStep, InvalidWord, UnknownColumn
from bothlots.graph import Graph, doubled_looks
from bothlots.programs import Program
from bothlots.words import LOTS, is_number


def movable(program):
    """The ascending list of the indexes of the steps that can be moved behind the cut."""
    return [at for at in range(program.cut_at) if program.step(at)[0] in ("near", "all")]


def moved(program, *steps):
    """The program with the steps with these indexes moved behind all others."""
    free = movable(program)
    for value in steps:
        if not is_number(value, 0, program.cut_at) or value not in free:
            raise InvalidStep(value)
        free.remove(value)
    staying = [step for at, step in enumerate(program.steps) if at not in steps]
    going = [step for at, step in enumerate(program.steps) if at in steps]
    return Program(program.main, staying + going, sides=program.sides, unique=program.unique)


def least_moves(program, worth, *, lot=None):
    """The list of the least sets of steps that are enough for a lot, or for both lots."""
    if worth not in program.columns_of("worth"):
        raise UnknownColumn(worth)
    if lot is not None and lot not in LOTS:
        raise InvalidWord(lot)
    # A row with copies in both lots leaks whatever is moved.
    if doubled_looks(program) is not None:
        return []
    graph = Graph(program, worth)
    lots = LOTS if lot is None else (lot,)
    steps = [at for at in movable(program) if program.step(at)[1] == worth]
    found = []
    # The steps of each way that was found; a set without one of them leaves this way as it is.
    ways = []
    for many in range(len(steps) + 1):
        for chosen in _subsets(steps, many):
            if _meets_all(chosen, ways) and not any([_has_all(chosen, least) for least in found]):
                way = _way_left(graph, lots, chosen)
                if way is None:
                    found.append(chosen)
                else:
                    ways.append(way)
    return found


def _subsets(steps, many):
    """The ascending list of the ascending tuples of so many of some ascending steps."""
    if many == 0:
        return [()]
    return [(step, *rest) for at, step in enumerate(steps) for rest in _subsets(steps[at + 1:], many - 1)]


def _meets_all(chosen, ways):
    return all([any([step in way for step in chosen]) for way in ways])


def _has_all(chosen, steps):
    return all([step in chosen for step in steps])


def _way_left(graph, lots, chosen):
    """The steps of a way by which a worth leaks into one of the lots when the chosen ones are moved, or None."""
    for lot in lots:
        way = graph.shortest_way(lot, chosen)
        if way is not None:
            return [state[0] for state in way[1:]]
    return None
