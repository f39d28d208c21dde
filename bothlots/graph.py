"""The states of two rows and the links between them, worked out with short states.

A short state is a tuple (at, look, other, agreed, order): the looks by their indexes among the own looks, the agreed
columns by their bits, and the order as a string.
"""

from bothlots.follow import Follow
from bothlots.joins import doubles
from bothlots.rules import fan_signs, forced, last_looks, own_looks, own_signs, parts, reaches
from bothlots.words import LOTS

# What follows for the first and the third of three rows from two signs that are unlike and no `=`.
MIXED = "<=>"
MIXED_ROWS = "<>"


class Graph:
    """The links of a program by which a worth hangs on rows."""

    def __init__(self, program, worth):
        self._program = program
        self._follow = Follow(program)
        self._ticks = program.columns_of("tick")
        self._looks = own_looks(program)
        self._numbers = {look: at for at, look in enumerate(self._looks)}
        self._signs = own_signs(program)
        self._ends = self._ends_of_looks()
        # The "near" and "all" of the worth ahead of the cut, by their indexes.
        self._mixing = [at for at in range(program.cut_at) if _mixes(program.step(at), worth)]
        self._reaching = {}
        for at in self._mixing:
            self._reaching[at] = [k for k, look in enumerate(self._looks) if reaches(program, look, at)]
        self._pairs = {}
        self._linked = {}
        self._ordered = {}
        self._agreements = {}
        self._next = {}
        self._parted = {}

    def _ends_of_looks(self):
        """For each own look the list of the fan's tags with which it is a last look."""
        found = [[] for _ in self._looks]
        for look in last_looks(self._program):
            own = look[:len(self._signs)]
            found[self._numbers[own]].append(look[len(self._signs):])
        return found

    def starts(self):
        """The short starts, in the order of the looks."""
        agreed = self._follow.plain | self._follow.own_bit
        order = "=" * (len(self._ticks) + 1)
        return [(self._program.cut_at, k, k, agreed, order) for k, ends in enumerate(self._ends) if len(ends) > 0]

    def told(self, state):
        """A short state as it is told."""
        at, look, other, agreed, order = state
        return at, self._looks[look], self._looks[other], tuple(self._follow.told(agreed)), tuple(order)

    def short(self, state):
        """A told state as a short one."""
        at, look, other, agreed, order = state
        return at, self._numbers[look], self._numbers[other], self._follow.mask(agreed), "".join(order)

    def links(self, state, kept=False, barred=()):
        """The list of the short states to which a link leads that is by none of the barred steps.

        With kept True ticks of the first and the third row are only equal if they are so over the second one. Then
        rows can be made for all states of a way at once, and shortest ways are as short as without that.
        """
        at, look, other, agreed, order = state
        found = []
        for index in self._mixing:
            if index < at and index not in barred:
                found = found + self._links_by(index, (look, other, agreed, order), kept)
        return found

    def _links_by(self, index, known, kept):
        """The states to which a link by one step leads; they do not hang on the index of the old state."""
        key = (index, known, kept)
        if key not in self._next:
            self._next[key] = self._find_links(index, known, kept)
        return self._next[key]

    def _find_links(self, index, known, kept):
        look, other, agreed, order = known
        if other not in self._reaching[index]:
            return []
        found = {}
        for third in self._reaching[index]:
            for columns in self.link_columns(index, other, third):
                for new_order in self._new_orders(index, order, columns & self._follow.ticks, kept):
                    new = self._agreed(look, third, agreed & columns, new_order)
                    if new is not None:
                        found[(index, look, third, new, new_order)] = True
        return list(found)

    def _pair(self, look, other):
        if (look, other) not in self._pairs:
            pair = self._follow.compared(self._signs, self._looks[look], self._looks[other])
            self._pairs[(look, other)] = pair
        return self._pairs[(look, other)]

    def link_columns(self, index, other, third):
        """The columns in which the second and the third row of a link can agree, for each set of equal ticks."""
        key = (index, other, third)
        if key not in self._linked:
            asked = self._follow.mask(self._program.step(index)[-1])
            found = {}
            for equal in _subsets(self._ticks):
                columns = self._follow.forced(self._pair(other, third), asked | self._follow.mask(equal))
                if columns is not None and columns & self._follow.own_bit == 0:
                    found[columns] = True
            self._linked[key] = list(found)
        return self._linked[key]

    def link_orders(self, index, equal):
        """The orders that the second and the third row of a link by a step can have, with these equal ticks."""
        found = [""]
        for tick in self._ticks:
            signs = "=" if equal & self._follow.mask([tick]) != 0 else MIXED_ROWS
            found = [order + more for order in found for more in signs]
        found = [order + more for order in found for more in MIXED_ROWS]
        step = self._program.step(index)
        if step[0] == "all":
            return found
        # The third row is the one that is nearer to the beginning if the second one is behind it.
        due = ">" if step[2] == "last" else "<"
        return [order for order in found if self.sign_at(index, order) == due]

    def sign_at(self, index, order):
        """The sign that two rows with an order have in the list of the rows ahead of a step."""
        for step in reversed(list(self._program.steps[:index])):
            if step[0] == "sort":
                sign = order[self._ticks.index(step[1])]
                if sign != "=":
                    return sign
        return order[-1]

    def _new_orders(self, index, order, equal, kept):
        key = (index, order, equal, kept)
        if key not in self._ordered:
            found = {}
            for link_order in self.link_orders(index, equal):
                for new in self.joined_orders(order, link_order, kept):
                    found[new] = True
            self._ordered[key] = list(found)
        return self._ordered[key]

    def joined_orders(self, order, link_order, kept):
        """The orders of the first and the third row that follow from those of each with the second one."""
        found = [""]
        for at, sign in enumerate(order):
            mixed = MIXED_ROWS if kept or at == len(self._ticks) else MIXED
            found = [new + more for new in found for more in _joined_signs(sign, link_order[at], mixed)]
        return found

    def _agreed(self, look, third, columns, order):
        """The agreed columns of a new state, or None if there is no such state."""
        key = (look, third, columns, order)
        if key not in self._agreements:
            equal = self._follow.mask([tick for at, tick in enumerate(self._ticks) if order[at] == "="])
            found = self._follow.forced(self._pair(look, third), columns | equal)
            if found is not None and (found & self._follow.own_bit != 0 or found & self._follow.ticks != equal):
                found = None
            self._agreements[key] = found
        return self._agreements[key]

    def crosses(self, state, lot):
        """Whether a short state crosses into a lot."""
        at, look, other, agreed, order = state
        if at == self._program.cut_at or not self._is_parted(look, other, agreed):
            return False
        cut = self._program.step(self._program.cut_at)
        # The row in learn is the earlier one.
        due = "<" if lot == LOTS[0] else ">"
        if cut[1] == "before":
            return order[self._ticks.index(cut[2])] == due
        return cut[1] != "share" or self.sign_at(self._program.cut_at, order) == due

    def link_between(self, state, new):
        """The columns and the order of the second and the third row of a link with kept ticks to a new state."""
        index, look, third, agreed, new_order = new
        for columns in self.link_columns(index, state[2], third):
            if self._agreed(look, third, state[3] & columns, new_order) == agreed:
                for link_order in self.link_orders(index, columns & self._follow.ticks):
                    if new_order in self.joined_orders(state[4], link_order, True):
                        return self._follow.told(columns), link_order
        return None

    def _is_parted(self, look, other, agreed):
        key = (look, other, agreed)
        if key not in self._parted:
            self._parted[key] = self.ends(look, other, agreed) is not None
        return self._parted[key]

    def ends(self, look, other, agreed):
        """Two last looks that complete own looks so that the cut parts rows that agree in some columns, or None."""
        columns = self._follow.told(agreed)
        for tags in self._ends[look]:
            for more in self._ends[other]:
                if parts(self._program, columns + _equal_signs(self._program, tags, more)):
                    return self._looks[look] + tags, self._looks[other] + more
        return None

    def shortest_way(self, lot, barred=()):
        """A shortest way of short states from a start to one that crosses into a lot, by no barred step, or None."""
        elder = {state: None for state in self.starts()}
        level = list(elder)
        while len(level) > 0:
            found = []
            for state in level:
                for new in self.links(state, True, barred):
                    if new not in elder:
                        elder[new] = state
                        found.append(new)
            for state in found:
                if self.crosses(state, lot):
                    return _traced(elder, state)
            level = found
        return None

    def reached(self):
        """The list of the short states that can be reached from the starts, which are in it."""
        seen = {state: True for state in self.starts()}
        level = list(seen)
        while len(level) > 0:
            found = []
            for state in level:
                for new in self.links(state):
                    if new not in seen:
                        seen[new] = True
                        found.append(new)
            level = found
        return list(seen)


def _mixes(step, worth):
    return step[0] in ("near", "all") and step[1] == worth


def _subsets(ticks):
    found = [[]]
    for tick in ticks:
        found = found + [[*subset, tick] for subset in found]
    return found


def _joined_signs(sign, other, mixed):
    if sign == "=":
        return other
    if other == "=" or sign == other:
        return sign
    return mixed


def _equal_signs(program, tags, more):
    """The columns of tags of the fan with equal tags."""
    return [sign for sign, one, two in zip(fan_signs(program), tags, more) if one == two]


def _traced(elder, state):
    found = [state]
    while elder[found[-1]] is not None:
        found.append(elder[found[-1]])
    return found[::-1]


def doubled_looks(program):
    """Two last looks of one row of the main table that the cut parts, or None."""
    if not doubles(program):
        return None
    lasts = last_looks(program)
    many = len(own_signs(program))
    for look in lasts:
        for other in lasts:
            if look[:many] == other[:many]:
                columns = forced(program, look, other, ["own"])
                if parts(program, columns):
                    return look, other
    return None
