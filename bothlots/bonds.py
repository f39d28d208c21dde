"""Rows that hang together by what they have in common."""


class Bonds:
    """Rows, by their numbers, each with marks; two rows are alike if they have a mark in common.

    The marks of a row are a dict of True. Rows hang together if one leads to the other by rows that are alike.
    """

    def __init__(self, marked):
        self._marked = marked
        self._holders = {}
        for row in marked:
            for mark in marked[row]:
                self._holders.setdefault(mark, []).append(row)

    def _distances(self, start):
        """A dict from all rows that hang together with a row to the numbers of links to them."""
        found = {start: 0}
        used = {}
        level = [start]
        while len(level) > 0:
            fresh = []
            for row in level:
                marks = [mark for mark in self._marked[row] if mark not in used]
                for mark in marks:
                    used[mark] = True
                    fresh = fresh + [other for other in self._holders[mark] if other not in found]
                    for other in self._holders[mark]:
                        found.setdefault(other, found[row] + 1)
            level = fresh
        return found

    def group(self, start):
        """The ascending list of the rows that hang together with a row."""
        return sorted(list(self._distances(start)))

    def groups(self):
        """The list of the groups of all rows, ordered by their first rows."""
        found = []
        placed = {}
        for row in sorted(list(self._marked)):
            if row not in placed:
                found.append(self.group(row))
                for member in found[-1]:
                    placed[member] = True
        return found

    def chain(self, one, other):
        """The least one of the shortest lists from one row to another in which neighbours are alike, or None."""
        left = self._distances(other) if other in self._marked else {}
        if one not in left:
            return None
        found = [one]
        for distance in range(left[one] - 1, -1, -1):
            alike = [row for mark in self._marked[found[-1]] for row in self._holders[mark]]
            found.append(min([row for row in alike if left[row] == distance]))
        return found
