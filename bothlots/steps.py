"""The steps of a program: which ones can stand where."""

from bothlots.checks import PARTS, is_test
from bothlots.columns import columns_of_side, is_anchor
from bothlots.words import is_number

MOST_TWICE = 2
MOST_MIXED = 2
LEAST_MODULUS = 2
MOST_MODULUS = 12
MOST_SHARE = 12
MOST_LIMIT = 999999999999

WAYS = ("last", "next")

# The words of the steps that may stand at each stage; `cut` is the stage right behind the cut.
STAGES = {
    "first": ("keep", "join", "left", "sort", "once", "near", "all", "twice", "fan", "cut"),
    "second": ("twice", "fan", "cut"),
    "cut": ("once", "near", "all", "twice"),
    "behind": ("near", "all", "twice"),
}


class Standing:
    """What is known of the rows and of the steps ahead of a place among the steps."""

    def __init__(self, main, sides, unique):
        self.kinds = {name: kind for name, kind in main if kind != "worth"}
        self.worths = [name for name, kind in main if kind == "worth"]
        self.anchors = [name for name in self.kinds if is_anchor(self.kinds[name])]
        # The bound on "near" and "all" holds from here on if the key has a column that is no anchor.
        self.bounded = self.strays(unique)
        self.free = {side[0]: side for side in sides}
        self.joined = []
        self.stage = "first"
        self.onces = 0
        self.doublings = []
        self.mixed = {name: 0 for name in self.worths}

    def strays(self, names):
        """Whether some of these columns are no names and no ticks of the main table."""
        return any([name not in self.anchors for name in names])

    def has_columns(self, value):
        """Whether any value is a tuple of different columns that the rows have here."""
        if not isinstance(value, tuple):
            return False
        if not all([isinstance(name, str) and name in self.kinds for name in value]):
            return False
        return len(set(value)) == len(value)

    def has_kind(self, value, kind):
        """Whether any value is a column of this kind that the rows have here."""
        return isinstance(value, str) and value in self.kinds and self.kinds[value] == kind

    def has_side(self, value, how):
        """Whether any value is a side that no step has taken yet."""
        return isinstance(value, str) and value in self.free and self.free[value][1] == how

    def answers(self, test):
        """Whether a test asks only what can be asked here."""
        if test[0] in PARTS:
            return all([self.answers(part) for part in test[1:]])
        if test[0] == "has":
            return test[1] in self.joined
        kind = self.kinds.get(test[1])
        return isinstance(kind, tuple) and test[2] in kind

    def takes(self, step):
        """Whether any value is a step that can stand here."""
        if not isinstance(step, tuple) or len(step) == 0 or not isinstance(step[0], str):
            return False
        if step[0] not in STAGES[self.stage]:
            return False
        stands = STANDS[step[0]]
        return stands(self, step)

    def take(self, step):
        """Go on behind a step that can stand here."""
        word = step[0]
        if word == "once":
            self.onces += 1
            self.bounded = self.bounded or self.strays(step[1])
        elif word in ("near", "all"):
            self.mixed[step[1]] += 1
        elif word in ("join", "left", "fan"):
            self.joined.append(step[1])
            for name, kind in columns_of_side(self.free.pop(step[1])):
                self.kinds[name] = kind
        if word in ("twice", "fan"):
            self.doublings.append(word)
        self.stage = self._stage_behind(word)

    def _stage_behind(self, word):
        if word == "cut":
            return "cut"
        if self.is_behind():
            return "behind"
        return "second" if word in ("twice", "fan") else self.stage

    def is_behind(self):
        """Whether the cut is ahead of this place."""
        return self.stage in ("cut", "behind")


def _keep_stands(standing, step):
    return len(step) == 2 and is_test(step[1]) and standing.answers(step[1])


def _join_stands(standing, step):
    return len(step) == 3 and standing.has_side(step[1], "one") and standing.has_kind(step[2], "name")


def _fan_stands(standing, step):
    if len(step) != 3 or "fan" in standing.doublings:
        return False
    return standing.has_side(step[1], "many") and standing.has_kind(step[2], "name")


def _sort_stands(standing, step):
    return len(step) == 2 and standing.has_kind(step[1], "tick")


def _once_stands(standing, step):
    if len(step) != 2 or not standing.has_columns(step[1]):
        return False
    if not any([name in standing.anchors for name in step[1]]):
        return False
    # Behind the cut the stage alone tells; ahead of it the steps that are gone count.
    mixed = [name for name in standing.mixed if standing.mixed[name] > 0]
    return standing.is_behind() or (standing.onces == 0 and len(mixed) == 0)


def _near_stands(standing, step):
    return len(step) == 4 and step[2] in WAYS and _mix_stands(standing, step[1], step[3])


def _all_stands(standing, step):
    return len(step) == 3 and _mix_stands(standing, step[1], step[2])


def _mix_stands(standing, worth, names):
    if worth not in standing.worths or not standing.has_columns(names):
        return False
    return standing.is_behind() or not standing.bounded or standing.mixed[worth] < MOST_MIXED


def _twice_stands(standing, step):
    if len(step) != 2 or not is_number(step[1], 2, 3):
        return False
    return standing.is_behind() or standing.doublings.count("twice") < MOST_TWICE


def _cut_stands(standing, step):
    if len(step) < 2 or not isinstance(step[1], str) or step[1] not in CUTS:
        return False
    stands = CUTS[step[1]]
    return stands(standing, step[2:])


def _are_rests(modulus, rests):
    if not is_number(modulus, LEAST_MODULUS, MOST_MODULUS) or not isinstance(rests, tuple):
        return False
    if not 1 <= len(rests) < modulus or not all([is_number(rest, 0, modulus - 1) for rest in rests]):
        return False
    return list(rests) == sorted(set(rests))


def _rounds_stands(standing, given):
    return len(given) == 2 and _are_rests(given[0], given[1])


def _throw_stands(standing, given):
    return len(given) == 0


def _mark_stands(standing, given):
    if len(given) != 3 or not standing.has_columns(given[0]) or len(given[0]) == 0:
        return False
    return _are_rests(given[1], given[2])


def _before_stands(standing, given):
    return len(given) == 2 and standing.has_kind(given[0], "tick") and is_number(given[1], -MOST_LIMIT, MOST_LIMIT)


def _share_stands(standing, given):
    if len(given) != 2 or not is_number(given[0], 1, MOST_SHARE) or not is_number(given[1], 1, MOST_SHARE):
        return False
    return given[0] < given[1]


def _groups_stands(standing, given):
    if not _mark_stands(standing, given):
        return False
    return any([name in standing.anchors and standing.has_kind(name, "name") for name in given[0]])


CUTS = {
    "rounds": _rounds_stands,
    "throw": _throw_stands,
    "mark": _mark_stands,
    "before": _before_stands,
    "share": _share_stands,
    "groups": _groups_stands,
}

STANDS = {
    "keep": _keep_stands,
    "join": _join_stands,
    "left": _join_stands,
    "sort": _sort_stands,
    "once": _once_stands,
    "near": _near_stands,
    "all": _all_stands,
    "twice": _twice_stands,
    "fan": _fan_stands,
    "cut": _cut_stands,
}
