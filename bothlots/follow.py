"""What follows from columns in which two rows agree, worked out with a bit for each column and for `own`."""

from bothlots.joins import joined_sides, once_ahead


class Follow:
    """The rules by which columns follow from columns in a program."""

    def __init__(self, program):
        self._names = sorted(["own", *program.columns()])
        self._bits = {name: 1 << at for at, name in enumerate(self._names)}
        self.own_bit = self._bits["own"]
        self.ticks = self.mask(program.columns_of("tick"))
        # The columns of the main table and of the sides that are joined to it, without those of a fan.
        plain = [name for name, kind in program.main if kind != "worth"]
        self._rules = [(self.own_bit, self.mask(plain))]
        self._partners = {}
        for side, column, columns in joined_sides(program):
            brought = self.mask([name for name, kind in columns])
            self._rules.append((self._bits[column], brought))
            self._partners[side] = (brought, self._bits[column] | brought)
            plain = plain + [name for name, kind in columns]
        self.plain = self.mask(plain)
        for columns in (program.unique, once_ahead(program)):
            if len(columns) > 0:
                self._rules.append((self.mask(columns), self.own_bit))

    def mask(self, names):
        """The bits of some columns."""
        total = 0
        for name in names:
            total = total | self._bits[name]
        return total

    def told(self, mask):
        """The ascending list of the columns with these bits."""
        return [name for name in self._names if mask & self._bits[name] != 0]

    def closed(self, mask):
        """These columns and all that follow from them."""
        before = None
        while mask != before:
            before = mask
            for needed, given in self._rules:
                if mask & needed == needed:
                    mask = mask | given
        return mask

    def compared(self, marks, look, other):
        """The bits of the columns that two looks make equal, and of those that cannot be forced."""
        equal = 0
        unlike = 0
        # Own looks lack the signs of the fan, which stand last.
        for sign, one, two in zip(marks, look, other):
            brought, barred = self._partners[sign] if sign in self._partners else (0, self._bits[sign])
            if one != two:
                unlike = unlike | barred
            elif sign not in self._partners:
                equal = equal | barred
            elif one == "no":
                equal = equal | brought
        return equal, unlike

    def forced(self, pair, mask):
        """The columns that two looks, by what `compared` tells of them, and some columns force, or None."""
        equal, unlike = pair
        found = self.closed(mask | equal)
        return None if found & unlike != 0 else found
