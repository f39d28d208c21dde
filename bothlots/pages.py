"""Pages: the programs of a shelf as lines, and the rows of tables in columns."""

from bothlots.errors import InvalidText, LotsError
from bothlots.lines import Parts
from bothlots.programs import Program
from bothlots.shelves import Shelf, shelf_of
from bothlots.words import is_name


def write_page(shelf):
    """The page of a shelf."""
    return "".join([f"program {name}\n{shelf.program(name).text()}end\n" for name in shelf.names()])


def read_page(text):
    """The shelf with a page; InvalidText(line) for the first wrong line."""
    if not isinstance(text, str):
        raise InvalidText(0)
    *lines, rest = text.split("\n")
    page = Page()
    for at, line in enumerate(lines):
        page.take(line, at)
    # A line without its line feed is wrong, whatever it says; without it the last `end` may lack.
    if rest != "" or page.parts is not None:
        raise InvalidText(len(lines))
    return shelf_of(page.programs, Shelf.MOST)


class Page:
    """What has been read of a page so far.

    `parts` are those of the program whose `end` is due, or None; `start` is the index of its line `program`.
    """

    def __init__(self):
        self.programs = {}
        self.parts = None
        self.name = ""
        self.start = 0

    def take(self, line, at):
        """Take a line; InvalidText with the index of the line that is wrong by it."""
        if self.parts is None:
            self._begin(line, at)
        elif line == "end":
            self._end(at)
        elif not self.parts.takes(line.split(" ")):
            raise InvalidText(at)

    def _begin(self, line, at):
        first, _, name = line.partition(" ")
        # The name of the program ahead of it is less; the first one has the empty string there.
        if first != "program" or not is_name(name) or name <= self.name or len(self.programs) == Shelf.MOST:
            raise InvalidText(at)
        self.parts = Parts()
        self.name = name
        self.start = at

    def _end(self, at):
        parts = self.parts
        if len(parts.table) == 0:
            raise InvalidText(at)
        try:
            program = Program(parts.table, parts.done, sides=parts.others, unique=tuple(parts.key))
        except LotsError:
            raise InvalidText(self.start) from None
        self.programs[self.name] = program
        self.parts = None


def columns_page(tables):
    """The list of the lines of the rows of the main table, with the values in columns."""
    return [f"{at:>4}" + "".join([_cell(value) for value in row]) for at, row in enumerate(tables.rows())]


def _cell(value):
    return f" {value:<8}" if isinstance(value, str) else f" {value:>8}"
