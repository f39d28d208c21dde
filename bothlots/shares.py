"""How many rows can be in judge."""

from bothlots.errors import InvalidNumber, Untold
from bothlots.joins import fanned_side
from bothlots.rules import forced, last_looks
from bothlots.words import is_number

MOST_ROWS = 100000


def span(program, number):
    """The least and the greatest number of rows in judge of so many rows at the cut, or None if there are no such."""
    if not is_number(number, 0, MOST_ROWS):
        raise InvalidNumber(number)
    if number == 0:
        return 0, 0
    if number % program.many != 0 or len(last_looks(program)) == 0:
        return None
    cut = program.step(program.cut_at)
    told = SPANS[cut[1]]
    return told(program, cut, number)


def _by_rounds(program, cut, number):
    judged = _count_judged(number, cut[2], cut[3])
    return judged, judged


def _by_values(program, cut, number):
    return 0, number


def _by_share(program, cut, number):
    judged = number - number * cut[2] // cut[3]
    return judged, judged


def _by_groups(program, cut, number):
    _, _, columns, modulus, rests = cut
    if _has_wide_groups(program, columns):
        border = [group for group in range(modulus) if (group in rests) != (0 in rests)][0]
        most = max(0, number - program.many * border)
        return (number - most, number) if 0 in rests else (0, most)
    if not _has_own_groups(program, columns):
        raise Untold()
    judged = program.many * _count_judged(number // program.many, modulus, rests)
    return judged, judged


def _count_judged(number, modulus, rests):
    """How many of so many numbers from 0 on have one of the rests."""
    left = number % modulus
    return number // modulus * len(rests) + len([rest for rest in rests if rest < left])


def _has_wide_groups(program, columns):
    """Whether a group by these columns can have any number of rows."""
    if fanned_side(program) is not None:
        return True
    return not all(["own" in forced(program, look, look, columns) for look in last_looks(program)])


def _has_own_groups(program, columns):
    """Whether two rows of a group by these columns always have the same own row."""
    lasts = last_looks(program)
    for look in lasts:
        for other in lasts:
            found = forced(program, look, other, columns)
            if found is not None and "own" not in found:
                return False
    return True


SPANS = {
    "rounds": _by_rounds,
    "throw": _by_values,
    "mark": _by_values,
    "before": _by_values,
    "share": _by_share,
    "groups": _by_groups,
}
