"""Desks: a shelf that answers lines of words."""

from bothlots.behind import least_moves
from bothlots.errors import LotsError, Missing, NothingLeft
from bothlots.keys import settled
from bothlots.lines import read_number
from bothlots.shares import span
from bothlots.shelves import Shelf

MOST_DIGITS = 6


class Desk:
    """A shelf with the lines that were said and their answers."""

    def __init__(self, *, shelf=None):
        # An empty shelf counts as a shelf, too.
        self._shelf = Shelf() if shelf is None else shelf
        self._log = []

    def say(self, line):
        """The answer to a line."""
        answer = self._answer(line)
        self._log.append((line, answer))
        return answer

    def _answer(self, line):
        words = line.split(" ")
        if "\n" in line or not _is_asked(words):
            return "unknown"
        action = ACTIONS[words[0]]
        try:
            return action(self._shelf, words[1:])
        except (LotsError, Missing, NothingLeft) as e:
            return f"error {e.code}"

    def __call__(self, line):
        return self.say(line)

    def shelf(self):
        """The shelf itself."""
        return self._shelf

    def log(self):
        """The list of the pairs of a line and its answer."""
        return list(self._log)

    def __len__(self):
        return len(self._log)

    def __repr__(self):
        return f"Desk({len(self._log)} lines)"


# How many words stand behind the first one; with the ones in OPEN there may be more.
COUNTS = {
    "split": 2, "leak": 3, "moves": 2, "steps": 1, "span": 2, "settled": 2, "least": 2, "behind": 2, "drop": 1,
    "rename": 2, "undo": 0, "redo": 0, "names": 0,
}
OPEN = ("split", "settled", "behind")


def _is_asked(words):
    """Whether these words have the form of a line."""
    word, *rest = words
    if word not in COUNTS or "" in rest:
        return False
    if len(rest) != COUNTS[word] and (word not in OPEN or len(rest) < COUNTS[word]):
        return False
    if word == "span" or word == "behind":
        return all([_is_index(number) for number in rest[1:]])
    return True


def _is_index(word):
    """Whether a word is a number of at most 6 digits without a sign."""
    return len(word) <= MOST_DIGITS and not word.startswith("-") and read_number(word) is not None


def _listed(words):
    """The words with one space between, or `none`."""
    return " ".join(words) if len(words) > 0 else "none"


def _told(answer):
    return "yes" if answer else "no"


def _split(shelf, words):
    return _told(shelf.splits(*words))


def _leak(shelf, words):
    return _told(shelf.leaks(words[0], words[1], lot=words[2]))


def _moves(shelf, words):
    return _told(shelf.moves(words[0], words[1]))


def _steps(shelf, words):
    return " ".join([step[0] for step in shelf.program(words[0]).steps])


def _span(shelf, words):
    found = span(shelf.program(words[0]), int(words[1]))
    return "none" if found is None else f"{found[0]} {found[1]}"


def _settled(shelf, words):
    return _listed(settled(shelf.program(words[0]), tuple(words[1:])))


def _least(shelf, words):
    return _listed([_set_word(steps) for steps in least_moves(shelf.program(words[0]), words[1])])


def _set_word(steps):
    return ",".join([str(step) for step in steps]) if len(steps) > 0 else "."


def _behind(shelf, words):
    shelf.apply(("behind", words[0], tuple([int(word) for word in words[1:]])))
    return "done"


def _drop(shelf, words):
    shelf.apply(("drop", words[0]))
    return "done"


def _rename(shelf, words):
    shelf.apply(("rename", words[0], words[1]))
    return "done"


def _undo(shelf, words):
    shelf.undo()
    return "done"


def _redo(shelf, words):
    shelf.redo()
    return "done"


def _names(shelf, words):
    return _listed(shelf.names())


ACTIONS = {
    "split": _split,
    "leak": _leak,
    "moves": _moves,
    "steps": _steps,
    "span": _span,
    "settled": _settled,
    "least": _least,
    "behind": _behind,
    "drop": _drop,
    "rename": _rename,
    "undo": _undo,
    "redo": _redo,
    "names": _names,
}
