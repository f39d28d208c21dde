"""Desks: lines and their answers."""

import random
import unittest

from bothlots.behind import least_moves, movable, moved
from bothlots.desk import Desk
from bothlots.keys import settled
from bothlots.programs import Program
from bothlots.shares import span
from bothlots.shelves import Shelf
from samples import drawn_program

NEAR = "main day:tick person:name pulse:worth\nsort day\nnear last pulse person\nnear next pulse person\ncut before day 7\n"
MARK = "main person:name photo:name\nside people one home:name\njoin people person\ncut mark 3 1 person\n"
WAYS = ("main a:name kx:u/v ky:m/n w:worth\nall w ky\nall w kx\nkeep or and is kx u is ky m and is kx v is ky n\n"
        "cut mark 2 0 kx ky\n")
UNTOLD = "main a:name k:x/y w:worth\nkey a k\nall w a\ntwice 2\ncut groups 3 1 a\n"


def desk_of():
    desk = Desk()
    desk.shelf().apply(("put", "near", NEAR), ("put", "mark", MARK), ("put", "ways", WAYS), ("put", "groups", UNTOLD))
    return desk


# Lines with their answers; each one is said to a new desk.
LINES = (
    ("split mark person", "no"),
    ("split mark photo", "yes"),
    ("split mark people.home person", "no"),
    ("split mark people.home photo", "yes"),
    ("split mark person person", "error InvalidThing"),
    ("split mark zz", "error InvalidThing"),
    ("split mark a.b.c", "error InvalidThing"),
    ("split mark person photo people.home person", "error InvalidThing"),
    ("split near day", "error InvalidThing"),
    ("split zz person", "error UnknownName"),
    ("split zz ??", "error UnknownName"),
    ("split Mark person", "error UnknownName"),
    ("split mark", "unknown"),
    ("split", "unknown"),
    ("split mark person ", "unknown"),
    ("split  mark person", "unknown"),
    (" split mark person", "unknown"),
    ("split mark person\n", "unknown"),
    ("split mark\nperson", "unknown"),
    ("Split mark person", "unknown"),
    ("leak near pulse learn", "yes"),
    ("leak near pulse judge", "yes"),
    ("leak ways w judge", "yes"),
    ("leak near pulse both", "error InvalidWord"),
    ("leak near zz learn", "error UnknownColumn"),
    ("leak near zz both", "error UnknownColumn"),
    ("leak near day learn", "error UnknownColumn"),
    ("leak zz zz zz", "error UnknownName"),
    ("leak mark person learn", "error UnknownColumn"),
    ("leak near pulse", "unknown"),
    ("leak near pulse learn judge", "unknown"),
    ("leak near pulse ", "unknown"),
    ("moves near any", "no"),
    ("moves groups any", "yes"),
    ("moves groups end", "no"),
    ("moves groups late", "no"),
    ("moves groups soon", "error InvalidWord"),
    ("moves zz soon", "error UnknownName"),
    ("moves groups", "unknown"),
    ("moves groups any end", "unknown"),
    ("steps near", "sort near near cut"),
    ("steps mark", "join cut"),
    ("steps ways", "all all keep cut"),
    ("steps zz", "error UnknownName"),
    ("steps", "unknown"),
    ("steps near mark", "unknown"),
    ("span near 7", "0 7"),
    ("span near 0", "0 0"),
    ("span near 100000", "0 100000"),
    ("span near 100001", "error InvalidNumber"),
    ("span near 999999", "error InvalidNumber"),
    ("span near 1000000", "unknown"),
    ("span near 0000007", "unknown"),
    ("span near 07", "unknown"),
    ("span near 00", "unknown"),
    ("span near -1", "unknown"),
    ("span near -0", "unknown"),
    ("span near +7", "unknown"),
    ("span near 7.0", "unknown"),
    ("span near x", "unknown"),
    ("span near 7 7", "unknown"),
    ("span near", "unknown"),
    ("span groups 7", "none"),
    ("span groups 8", "error Untold"),
    ("span groups 0", "0 0"),
    ("span zz 7", "error UnknownName"),
    ("span zz 999999", "error UnknownName"),
    ("span zz 07", "unknown"),
    ("settled mark person", "people.home person"),
    ("settled mark photo", "photo"),
    ("settled mark photo people.home", "people.home photo"),
    ("settled mark zz", "error InvalidThing"),
    ("settled mark photo photo", "error InvalidThing"),
    ("settled zz zz", "error UnknownName"),
    ("settled mark", "unknown"),
    ("settled mark ", "unknown"),
    ("least near pulse", "1,2"),
    ("least ways w", "0 1"),
    ("least groups w", "."),
    ("least near day", "error UnknownColumn"),
    ("least zz zz", "error UnknownName"),
    ("least near", "unknown"),
    ("least near pulse learn", "unknown"),
    ("behind near 2", "done"),
    ("behind near 2 1", "done"),
    ("behind near 2 1 2", "error InvalidStep"),
    ("behind near 0", "error InvalidStep"),
    ("behind near 999999", "error InvalidStep"),
    ("behind near 1000000", "unknown"),
    ("behind near 02", "unknown"),
    ("behind near -2", "unknown"),
    ("behind near 2,3", "unknown"),
    ("behind near 1 x", "unknown"),
    ("behind near 2 ", "unknown"),
    ("behind near", "unknown"),
    ("behind zz 0", "error UnknownName"),
    ("behind zz x", "unknown"),
    ("drop mark", "done"),
    ("drop zz", "error UnknownName"),
    ("drop Mark", "error UnknownName"),
    ("drop", "unknown"),
    ("drop mark near", "unknown"),
    ("rename mark fresh", "done"),
    ("rename mark mark", "error DuplicateName"),
    ("rename mark near", "error DuplicateName"),
    ("rename mark Fresh", "error InvalidName"),
    ("rename mark toolong", "error InvalidName"),
    ("rename mark a.b", "error InvalidName"),
    ("rename zz mark", "error UnknownName"),
    ("rename zz A", "error UnknownName"),
    ("rename mark", "unknown"),
    ("rename mark a b", "unknown"),
    ("undo", "done"),
    ("undo 1", "unknown"),
    ("undo ", "unknown"),
    ("redo", "error NothingLeft"),
    ("redo 1", "unknown"),
    ("names", "groups mark near ways"),
    ("names ", "unknown"),
    ("names all", "unknown"),
    ("names\n", "unknown"),
    ("\nnames", "unknown"),
    ("Names", "unknown"),
    ("name", "unknown"),
    ("", "unknown"),
    (" ", "unknown"),
    ("\n", "unknown"),
    ("put a b", "unknown"),
    ("kept", "unknown"),
    ("unknown", "unknown"),
    ("error", "unknown"),
    ("movable near", "unknown"),
)


class LineTest(unittest.TestCase):
    def test_lines(self):
        for line, answer in LINES:
            with self.subTest(line=line):
                desk = desk_of()
                before = desk.shelf().twin()
                self.assertEqual(desk.say(line), answer)
                self.assertEqual(desk_of()(line), answer)
                self.assertEqual((desk.log(), len(desk), repr(desk)), ([(line, answer)], 1, "Desk(1 lines)"))
                if answer != "done":
                    self.assertEqual((desk.shelf(), desk.shelf().history()), (before, before.history()))

    def test_a_line_does_what_it_says(self):
        desk = desk_of()
        shelf = desk.shelf()
        self.assertEqual([desk(line) for line in ("behind near 2", "names", "rename near fresh", "drop mark", "undo", "names", "undo",
                                                  "redo", "redo", "redo", "names", "steps fresh")],
                         ["done", "groups mark near ways", "done", "done", "done", "fresh groups mark ways", "done", "done", "done",
                          "error NothingLeft", "fresh groups ways", "sort near cut near"])
        self.assertEqual(shelf.program("fresh"), moved(Program.read(NEAR), 2))
        self.assertEqual(shelf.history(), (4, 0))

    def test_an_empty_shelf(self):
        desk = Desk()
        self.assertEqual([desk(line) for line in ("names", "undo", "redo", "drop a", "split a b", "behind a 0")],
                         ["none", "error NothingLeft", "error NothingLeft"] + ["error UnknownName"] * 3)

    def test_none(self):
        desk = Desk()
        desk.shelf().apply(("put", "a", "main a:name w:worth\nall w\ntwice 2\ncut throw\n"), ("put", "b", "main a:name\ncut rounds 2 1\n"))
        self.assertEqual([desk(line) for line in ("least a w", "span a 3", "span b 3")], ["none", "none", "1 1"])

    def test_answers_are_kept(self):
        desk = desk_of()
        for _ in range(2):
            for line in ("split mark photo", "leak near pulse learn", "moves groups end", "settled mark photo", "least ways w", "span near 3"):
                desk(line)
        shelf = desk.shelf()
        self.assertEqual(shelf.kept(), [("groups", "moves", "end"), ("mark", "split", ("photo",)), ("near", "leak", "pulse", "learn")])
        self.assertEqual(shelf.computed, 3)
        self.assertIs(shelf.splits("mark", "photo"), True)
        self.assertEqual(shelf.computed, 3)


class DeskTest(unittest.TestCase):
    def test_a_shelf_of_its_own(self):
        one, other = Desk(), Desk()
        self.assertEqual((type(one.shelf()), one.shelf().limit, len(one), repr(one), one.log()), (Shelf, 8, 0, "Desk(0 lines)", []))
        one.shelf().apply(("put", "a", NEAR))
        self.assertEqual((one("names"), other("names")), ("a", "none"))
        self.assertIs(one.shelf(), one.shelf())

    def test_this_very_shelf(self):
        """Also an empty one, and one over which another desk stands."""
        shelf = Shelf()
        one, other = Desk(shelf=shelf), Desk(shelf=shelf)
        self.assertTrue(one.shelf() is shelf and other.shelf() is shelf)
        shelf.apply(("put", "a", NEAR))
        self.assertEqual((one("rename a b"), other("names"), other("undo"), one("names"), shelf.names()), ("done", "b", "done", "a", ["a"]))
        self.assertEqual((len(one), len(other)), (2, 2))
        self.assertEqual(one("leak a pulse judge"), other("leak a pulse judge"))
        self.assertEqual(shelf.computed, 1)

    def test_log(self):
        desk = desk_of()
        for line in ("names", "", "names", "drop zz"):
            desk(line)
        expected = [("names", "groups mark near ways"), ("", "unknown"), ("names", "groups mark near ways"), ("drop zz", "error UnknownName")]
        self.assertEqual((desk.log(), len(desk), repr(desk)), (expected, 4, "Desk(4 lines)"))
        desk.log().clear()
        self.assertEqual(desk.log(), expected)


class ByChanceTest(unittest.TestCase):
    def test_lines_and_functions_tell_the_same(self):
        for seed in range(40):
            program = drawn_program(random.Random(seed))
            desk = Desk()
            desk.shelf().apply(("put", "a", program.text()))
            names, (worth,) = program.columns_of("name"), program.columns_of("worth")
            with self.subTest(seed=seed):
                self.assertEqual(desk(f"settled a {names[0]}"), " ".join(settled(program, (names[0],))) or "none")
                sets = [",".join(map(str, least)) or "." for least in least_moves(program, worth)]
                self.assertEqual(desk(f"least a {worth}"), " ".join(sets) or "none")
                self.assertEqual(desk("steps a"), " ".join(step[0] for step in program.steps))
                try:
                    found = span(program, 12)
                    self.assertEqual(desk("span a 12"), "none" if found is None else f"{found[0]} {found[1]}")
                except ValueError:
                    self.assertEqual(desk("span a 12"), "error Untold")
                steps = movable(program)
                if steps:
                    desk("behind a " + " ".join(map(str, steps)))
                    self.assertEqual(desk.shelf().program("a"), moved(program, *steps))


if __name__ == "__main__":
    unittest.main()
