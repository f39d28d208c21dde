"""Shelves: programs by names, with commands, undo and kept answers."""

from bothlots.behind import moved
from bothlots.errors import (DuplicateName, Full, InvalidCommand, InvalidName, InvalidNumber, InvalidThing, InvalidWord,
                             NothingLeft, UnknownColumn, UnknownName)
from bothlots.growth import grown
from bothlots.hangs import leak
from bothlots.joins import is_thing
from bothlots.programs import Program
from bothlots.touches import split
from bothlots.words import GROWTHS, LOTS, is_name, is_number

# The number of items of a command by its first item.
SIZES = {"put": 3, "drop": 2, "rename": 3, "behind": 3}


class Shelf:
    """Programs by names. A step goes from one dict of programs to another one, and these dicts never change."""

    MOST = 12

    def __init__(self, *, limit=8):
        self._programs = {}
        self._check_limit(limit)
        self._limit = limit
        # The programs ahead of each step that can be undone, and behind each one that can be redone.
        self._past = []
        self._future = []
        self._kept = {}
        self._computed = 0
        self._busy = False

    def _check_limit(self, value):
        if not is_number(value, max(1, len(self._programs)), Shelf.MOST):
            raise InvalidNumber(value)

    @property
    def limit(self):
        """The most programs that may be put onto the shelf."""
        return self._limit

    @limit.setter
    def limit(self, value):
        self._check_limit(value)
        self._limit = value

    def set_limit(self, value):
        """Assign the limit."""
        self.limit = value

    def apply(self, *commands):
        """Do all commands as one step, or none if one raises an error."""
        for at, command in enumerate(commands):
            if not _is_command(command):
                raise InvalidCommand(at)
        elder = self._programs
        programs = dict(elder)
        self._busy = True
        try:
            for command in commands:
                action = ACTIONS[command[0]]
                action(programs, command, self._limit)
        finally:
            self._busy = False
        self._past.append(elder)
        self._future = []
        self._turn_to(programs)

    def _turn_to(self, programs):
        """Show other programs; the answers to the questions about the same ones stay."""
        elder = self._programs
        self._programs = programs
        staying = [name for name in elder if name in programs and elder[name] == programs[name]]
        self._kept = {question: told for question, told in self._kept.items() if question[0] in staying}

    def undo(self):
        """Take back the last step."""
        if len(self._past) == 0:
            raise NothingLeft()
        self._future.append(self._programs)
        self._turn_to(self._past.pop())

    def redo(self):
        """Make the step again that was taken back last."""
        if len(self._future) == 0:
            raise NothingLeft()
        self._past.append(self._programs)
        self._turn_to(self._future.pop())

    def history(self):
        """The pair of the numbers of steps that can be undone and redone."""
        return len(self._past), len(self._future)

    @property
    def busy(self):
        """Whether commands are being done."""
        return self._busy

    def names(self):
        """The ascending list of the names."""
        return sorted(list(self._programs))

    def program(self, name):
        """The program with a name."""
        return _named(self._programs, name)

    def splits(self, name, *thing):
        """Whether a program splits a thing, given by its columns."""
        program = _named(self._programs, name)
        if not is_thing(program, thing):
            raise InvalidThing(thing)
        return self._answer((name, "split", thing), lambda: split(program, thing))

    def leaks(self, name, worth, *, lot="learn"):
        """Whether a program leaks a worth into a lot."""
        program = _named(self._programs, name)
        if worth not in program.columns_of("worth"):
            raise UnknownColumn(worth)
        if lot not in LOTS:
            raise InvalidWord(lot)
        return self._answer((name, "leak", worth, lot), lambda: leak(program, worth, lot))

    def moves(self, name, growth):
        """Whether a program moves under a growth."""
        program = _named(self._programs, name)
        if growth not in GROWTHS:
            raise InvalidWord(growth)
        return self._answer((name, "moves", growth), lambda: grown(program, growth))

    def _answer(self, question, find):
        """The answer to a question, which is a right one and so does as a key; `find` finds the paper that tells it."""
        if question not in self._kept:
            self._kept[question] = bool(find())
            self._computed += 1
        return self._kept[question]

    def kept(self):
        """The ascending list of the questions to which the answers are kept."""
        return sorted(list(self._kept))

    @property
    def computed(self):
        """How many answers were computed."""
        return self._computed

    def twin(self):
        """An independent shelf in the same state."""
        other = shelf_of(self._programs, self._limit)
        other._past = list(self._past)
        other._future = list(self._future)
        other._kept = {question: self._kept[question] for question in self._kept}
        other._computed = self._computed
        return other

    def __contains__(self, name):
        return isinstance(name, str) and name in self._programs

    def __eq__(self, other):
        return isinstance(other, Shelf) and self._programs == other._programs

    def __len__(self):
        return len(self._programs)

    def __repr__(self):
        return f"Shelf({len(self._programs)} programs)"


def shelf_of(programs, limit):
    """A shelf with these programs and this limit, without steps and kept answers."""
    # The limit may be less than the number of programs: undo does not look at it.
    shelf = Shelf()
    shelf._programs = dict(programs)
    shelf._limit = limit
    return shelf


def _named(programs, name):
    """The program with any value as its name."""
    if not isinstance(name, str) or name not in programs:
        raise UnknownName(name)
    return programs[name]


def _is_command(value):
    """Whether any value has the form of a command."""
    if not isinstance(value, tuple) or len(value) == 0 or not isinstance(value[0], str):
        return False
    if value[0] not in SIZES or len(value) != SIZES[value[0]]:
        return False
    return value[0] != "behind" or _are_numbers(value[2])


def _are_numbers(value):
    if not isinstance(value, tuple):
        return False
    return all([isinstance(item, int) and not isinstance(item, bool) for item in value])


def _put(programs, command, limit):
    _, name, text = command
    if not is_name(name):
        raise InvalidName(name)
    if name not in programs and len(programs) >= limit:
        raise Full(limit)
    programs[name] = Program.read(text)


def _drop(programs, command, limit):
    _named(programs, command[1])
    del programs[command[1]]


def _rename(programs, command, limit):
    _, name, fresh = command
    found = _named(programs, name)
    if not is_name(fresh):
        raise InvalidName(fresh)
    if fresh in programs:
        raise DuplicateName(fresh)
    del programs[name]
    programs[fresh] = found


def _behind(programs, command, limit):
    _, name, steps = command
    programs[name] = moved(_named(programs, name), *steps)


ACTIONS = {
    "put": _put,
    "drop": _drop,
    "rename": _rename,
    "behind": _behind,
}
