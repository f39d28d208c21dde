"""Whether a program leaks a worth into a lot: tables that show it, or all states that can be reached."""

from bothlots.chains import ascending
from bothlots.errors import InvalidWord, UnknownColumn
from bothlots.graph import Graph, doubled_looks
from bothlots.papers import Paper, copied, is_listed, is_words
from bothlots.programs import Program
from bothlots.rules import forced
from bothlots.runs import Run
from bothlots.tables import Tables
from bothlots.ways import scene_of_way
from bothlots.witness import pair_scene, shown
from bothlots.words import LOTS, is_number


class Leak(Paper):
    """A way of states by which a worth leaks into a lot, and tables and a setting that show it."""

    def __init__(self, program, worth, lot, tables, setting, way):
        super().__init__(program)
        self._worth = worth
        self._lot = lot
        self._tables = copied(tables)
        self._setting = setting
        self._way = copied(way)

    @property
    def basis(self):
        """The program."""
        return self._program

    @property
    def worth(self):
        """The worth."""
        return self._worth

    @property
    def lot(self):
        """The lot."""
        return self._lot

    @property
    def tables(self):
        """The tables."""
        return copied(self._tables)

    @property
    def setting(self):
        """The setting."""
        return self._setting

    @property
    def way(self):
        """The list of the states."""
        return copied(self._way)

    def told(self):
        """What the paper tells, in one word."""
        return "leak"

    def run(self):
        """The run that shows it."""
        return Run(self._program, self._tables, self._setting)

    def holds(self):
        """Whether the way leads into the lot and the run has such a leak."""
        if not is_listed(self._way) or not all([_is_state(item) for item in self._way]):
            return False
        if not isinstance(self._tables, Tables) or not self._tables.basis == self._program:
            return False
        return self._leads() and self.run().leak(self._worth, self._lot) is not None

    def _leads(self):
        graph = Graph(self._program, self._worth)
        expected = [graph.told(state) for state in graph.starts()]
        for item in self._way:
            if item not in expected:
                return False
            last = graph.short(item)
            expected = [graph.told(state) for state in graph.links(last)]
        if len(self._way) == 1:
            return doubled_looks(self._program) is not None
        return len(self._way) > 1 and graph.crosses(last, self._lot)

    def __bool__(self):
        return True

    def __repr__(self):
        return f"Paper({self.told()})"


class Tight(Paper):
    """All states that can be reached, none of which crosses into a lot."""

    def __init__(self, program, worth, lot, states):
        super().__init__(program)
        self._worth = worth
        self._lot = lot
        self._states = copied(states)

    @property
    def basis(self):
        """The program."""
        return self._program

    @property
    def worth(self):
        """The worth."""
        return self._worth

    @property
    def lot(self):
        """The lot."""
        return self._lot

    @property
    def states(self):
        """The list of the states."""
        return copied(self._states)

    def told(self):
        """What the paper tells, in one word."""
        return "tight"

    def holds(self):
        """Whether these are all states that can be reached and no others, and the worth does not leak."""
        if not is_listed(self._states) or not all([_is_state(item) for item in self._states]):
            return False
        if doubled_looks(self._program) is not None:
            return False
        graph = Graph(self._program, self._worth)
        # The states that can be reached are the least ones with all starts and all states to which a link leads.
        reached = graph.reached()
        told = {graph.told(state): True for state in reached}
        if {item: True for item in self._states} != told:
            return False
        return not any([graph.crosses(state, self._lot) for state in reached])

    def __bool__(self):
        return False

    def __repr__(self):
        return f"Paper({self.told()})"


def _is_state(value):
    """Whether any value has the form of a state."""
    if not isinstance(value, tuple) or len(value) != 5:
        return False
    return is_number(value[0], 0, Program.MOST_STEPS) and all([is_words(part) for part in value[1:]])


def leak(program, worth, lot):
    """A right paper that tells whether a program leaks a worth into a lot."""
    if worth not in program.columns_of("worth"):
        raise UnknownColumn(worth)
    if lot not in LOTS:
        raise InvalidWord(lot)
    graph = Graph(program, worth)
    other_lot = LOTS[1] if lot == LOTS[0] else LOTS[0]
    doubled = doubled_looks(program)
    if doubled is not None:
        way = graph.starts()[:1]
        columns = forced(program, doubled[0], doubled[1], ["own"])
        scene, places = pair_scene(program, doubled[0], doubled[1], columns)
    else:
        way = graph.shortest_way(lot)
        if way is None:
            return Tight(program, worth, lot, ascending([graph.told(state) for state in graph.reached()]))
        scene, places = scene_of_way(program, graph, way)
    tables, setting = shown(program, scene, places, (lot, other_lot), lambda run: run.leak(worth, lot) is not None)
    return Leak(program, worth, lot, tables, setting, [graph.told(state) for state in way])
