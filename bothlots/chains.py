"""The states of two rows of a program, the links between them, and which ones cross into a lot."""

from bothlots.errors import InvalidWord, UnknownColumn
from bothlots.graph import Graph
from bothlots.words import LOTS


def starts(program):
    """The list of the starts, in the order of the looks."""
    graph = Graph(program, "")
    return [graph.told(state) for state in graph.starts()]


def links(program, worth, state):
    """The ascending list of the states to which a link leads from a state."""
    if worth not in program.columns_of("worth"):
        raise UnknownColumn(worth)
    graph = Graph(program, worth)
    return ascending([graph.told(new) for new in graph.links(graph.short(state))])


def crosses(program, state, lot):
    """Whether a state crosses into a lot."""
    if lot not in LOTS:
        raise InvalidWord(lot)
    graph = Graph(program, "")
    return graph.crosses(graph.short(state), lot)


def ascending(states):
    """These states in ascending order, where None counts as the empty string."""
    return sorted(states, key=_sorted_by)


def _sorted_by(state):
    at, look, other, agreed, order = state
    return at, _words(look), _words(other), agreed, order


def _words(look):
    return tuple(["" if word is None else word for word in look])
