"""The errors of the package, each with the values it is about and its code."""


class LotsError(ValueError):
    """The base of the errors that a wrong value or a wrong moment causes."""


class Missing(LookupError):
    """The base of the errors about something that is not there."""


class InvalidName(LotsError):
    """A value that is no name, where one is due."""

    def __init__(self, given):
        self.given = given
        self.code = "InvalidName"


class InvalidColumn(LotsError):
    """A column of a main table that is none, by its index."""

    def __init__(self, at):
        self.at = at
        self.code = "InvalidColumn"


class InvalidSide(LotsError):
    """A side that is none, by its index."""

    def __init__(self, at):
        self.at = at
        self.code = "InvalidSide"


class InvalidKey(LotsError):
    """A value that is no key of the main table."""

    def __init__(self, given):
        self.given = given
        self.code = "InvalidKey"


class InvalidStep(LotsError):
    """A step that is none or cannot stand where it does."""

    def __init__(self, at):
        self.at = at
        self.code = "InvalidStep"


class InvalidTest(LotsError):
    """A value that is not the text of a test."""

    def __init__(self, given):
        self.given = given
        self.code = "InvalidTest"


class InvalidThing(LotsError):
    """A value that is no thing."""

    def __init__(self, given):
        self.given = given
        self.code = "InvalidThing"


class InvalidRow(LotsError):
    """A row that is none, by its table and its index."""

    def __init__(self, table, at):
        self.table = table
        self.at = at
        self.code = "InvalidRow"


class InvalidSetting(LotsError):
    """A throw that is neither 0 nor 1."""

    def __init__(self, given):
        self.given = given
        self.code = "InvalidSetting"


class InvalidWord(LotsError):
    """A value that is none of the words that may stand there."""

    def __init__(self, given):
        self.given = given
        self.code = "InvalidWord"


class InvalidNumber(LotsError):
    """A value that is no number, or one out of its bounds."""

    def __init__(self, given):
        self.given = given
        self.code = "InvalidNumber"


class InvalidText(LotsError):
    """A text that cannot be read, by the index of a line."""

    def __init__(self, line):
        self.line = line
        self.code = "InvalidText"


class InvalidCommand(LotsError):
    """A command that has no such form, by its index."""

    def __init__(self, at):
        self.at = at
        self.code = "InvalidCommand"


class DuplicateName(LotsError):
    """A name that is taken already."""

    def __init__(self, name):
        self.name = name
        self.code = "DuplicateName"


class OtherProgram(LotsError):
    """Tables that belong to another program."""

    def __init__(self):
        self.code = "OtherProgram"


class SideTaken(LotsError):
    """A row that has to go to the other lot, named here."""

    def __init__(self, taken):
        self.taken = taken
        self.code = "SideTaken"


class Torn(LotsError):
    """A row that is alike with rows in both lots."""

    def __init__(self, one, other):
        self.one = one
        self.other = other
        self.code = "Torn"


class TooMany(LotsError):
    """More than the most that is allowed."""

    def __init__(self, most):
        self.most = most
        self.code = "TooMany"


class Full(LotsError):
    """No place for one more."""

    def __init__(self, most):
        self.most = most
        self.code = "Full"


class Untold(LotsError):
    """Numbers that are not told."""

    def __init__(self):
        self.code = "Untold"


class UnknownName(Missing):
    """A name that nothing has here."""

    def __init__(self, name):
        self.name = name
        self.code = "UnknownName"


class UnknownColumn(Missing):
    """A column that is not there."""

    def __init__(self, name):
        self.name = name
        self.code = "UnknownColumn"


class UnknownRow(Missing):
    """A row that is not there."""

    def __init__(self, number):
        self.number = number
        self.code = "UnknownRow"


class NothingLeft(IndexError):
    """Nothing to undo or to redo."""

    def __init__(self):
        self.code = "NothingLeft"
