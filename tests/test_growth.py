"""Whether a program moves when one row more comes: tables that show it, and reasons why it stays."""

import random
import unittest

import naive
from bothlots.errors import InvalidRow, InvalidWord
from bothlots.growth import Moves, Stays, grown
from bothlots.papers import Paper
from bothlots.programs import Program
from bothlots.runs import Run
from bothlots.tables import Setting, Tables
from samples import drawn_program, drawn_tables

GROWTHS = ("end", "late", "any")
ODD = (None, True, False, 0, 7, -1, "", "moves", "End", "ends", (), [], (1,), ["end"], ("end",), [[], (1, [2])])


def program_of(*lines):
    return Program.read("".join(line + "\n" for line in lines))


# Programs, with what is told under `end`, `late` and `any`: None if they move, or the reason why they stay.
CASES = (
    (["main a:name t:tick", "cut mark 3 1 a"], "values", "values", "values"),
    (["main a:name t:tick", "sort t", "once a", "cut mark 3 1 t"], "values", "values", "values"),
    (["main a:name t:tick", "cut before t 7"], "values", "values", "values"),
    (["main a:name t:tick", "sort t", "twice 2", "cut before t -7"], "values", "values", "values"),
    (["main a:name t:tick", "cut share 1 2"], None, None, None),
    (["main a:name t:tick", "sort t", "cut share 1 12"], None, None, None),
    (["main a:name t:tick", "twice 3", "twice 3", "cut share 11 12"], None, None, None),
    (["main a:name t:tick", "key t", "once a t", "cut share 5 7"], None, None, None),
    (["main a:name", "side f many p:name", "fan f a", "cut share 2 3"], None, None, None),
    (["main a:name t:tick", "cut throw"], "behind", "behind", None),
    (["main a:name t:tick", "sort t", "cut throw"], None, "behind", None),
    (["main a:name t:tick", "once a", "sort t", "twice 2", "cut throw"], None, "behind", None),
    (["main a:name t:tick u:tick", "key t u", "sort t", "sort u", "cut throw"], None, "behind", None),
    (["main a:name", "side f many p:name q:x/y", "fan f a", "twice 2", "cut throw"], "behind", "behind", None),
    (["main a:name t:tick", "cut groups 4 3 a"], "behind", "behind", None),
    (["main a:name t:tick", "sort t", "cut groups 12 0,1,2,3,4,5,6,7,8,9,10 a"], None, "behind", None),
    (["main a:name t:tick", "key a", "sort t", "twice 2", "cut groups 3 0 a t"], None, "behind", None),
    (["main a:name", "side f many p:name", "fan f a", "cut groups 5 1,2 a f.p"], "behind", "behind", None),
    (["main a:name t:tick", "cut rounds 4 3"], "behind", "behind", None),
    (["main a:name t:tick", "sort t", "cut rounds 12 11"], None, "behind", None),
    (["main a:name t:tick", "sort t", "twice 2", "cut rounds 4 3"], None, "behind", None),
    (["main a:name t:tick", "sort t", "twice 2", "cut rounds 4 0,1"], None, "behind", None),
    (["main a:name t:tick", "sort t", "twice 2", "cut rounds 4 1,2"], "rounds", "behind", "rounds"),
    (["main a:name t:tick", "twice 2", "cut rounds 4 1,2"], "behind", "behind", "rounds"),
    (["main a:name t:tick", "sort t", "twice 2", "cut rounds 2 0"], "rounds", "behind", "rounds"),
    (["main a:name t:tick", "sort t", "twice 2", "cut rounds 3 0"], None, "behind", None),
    (["main a:name t:tick", "sort t", "twice 3", "cut rounds 3 1"], "rounds", "behind", "rounds"),
    (["main a:name t:tick", "sort t", "twice 3", "cut rounds 2 1"], "rounds", "behind", "rounds"),
    (["main a:name t:tick", "sort t", "twice 2", "twice 2", "cut rounds 8 3,4"], "rounds", "behind", "rounds"),
    (["main a:name t:tick", "sort t", "twice 2", "twice 2", "cut rounds 8 0,1,2,4"], "rounds", "behind", "rounds"),
    (["main a:name t:tick", "sort t", "twice 2", "twice 2", "cut rounds 8 2,3"], None, "behind", None),
    (["main a:name t:tick", "sort t", "cut rounds 2 1", "twice 2"], None, "behind", None),
    (["main a:name t:tick", "side f many p:name", "sort t", "twice 2", "fan f a", "cut rounds 4 1,2"],
     "rounds", "behind", "rounds"),
    (["main a:name t:tick", "side f many p:name", "sort t", "fan f a", "twice 2", "cut rounds 4 1"], None, "behind", None),
    (["main a:name t:tick k:x/y", "keep is k x", "keep is k y", "cut share 1 2"], "empty", "empty", "empty"),
    (["main a:name t:tick k:x/y", "keep is k x", "keep is k y", "cut before t 0"], "empty", "empty", "empty"),
    (["main a:name k:x", "keep not is k x", "cut mark 2 1 a"], "empty", "empty", "empty"),
    (["main a:name t:tick k:x", "keep not is k x", "sort t", "cut throw"], "empty", "empty", "empty"),
    (["main a:name", "side s one h:name", "left s a", "keep not or has s not has s", "cut groups 2 0 a"],
     "empty", "empty", "empty"),
    (["main a:name t:tick", "side s one h:name", "join s a", "keep not has s", "sort t", "twice 2", "cut rounds 2 1"],
     "empty", "empty", "empty"),
    (["main a:name t:tick k:x/y w:worth", "key a t", "side s one h:name l:u/v", "side r one o:name", "join s a",
      "left r s.h", "keep and has r is s.l v", "sort t", "once s.h a", "near last w a", "twice 2", "cut groups 6 2,3 r.o a"],
     None, "behind", None),
    # A step behind the cut is no sort ahead of it, and a near does not change the rows.
    (["main a:name w:worth", "near next w a", "cut throw", "once a", "all w"], "behind", "behind", None),
)


class CaseTest(unittest.TestCase):
    def shows(self, program, growth):
        """Tables, newcomer and row of a Moves are run anew, without it and with it ahead of the row or behind it."""
        paper = grown(program, growth)
        self.assertEqual((type(paper), paper.told(), bool(paper), paper.holds()), (Moves, "moves", True, True))
        self.assertEqual((paper.basis, paper.program, paper.growth), (program, program, growth))
        self.assertEqual((type(paper.tables), type(paper.setting)), (Tables, Setting))
        tables, place, own = paper.tables, paper.place, paper.own
        if growth != "any":
            self.assertEqual(place, len(tables))
        rows = tables.rows()
        sides = {name: tables.side(name) for name, _, _ in program.sides}
        longer = Tables(program, rows[:place] + [paper.newcomer] + rows[place:], sides)
        kinds = [kind for _, kind in program.main if kind != "worth"]
        if growth == "late":
            for at, kind in enumerate(kinds):
                self.assertTrue(kind != "tick" or all(paper.newcomer[at] >= row[at] for row in rows))
        self.assertIn(own, naive.movers(lambda told: Run(program, told, paper.setting), tables, longer, place))

    def stays(self, program, growth, reason):
        paper = grown(program, growth)
        self.assertEqual((type(paper), paper.told(), bool(paper), paper.holds()), (Stays, "stays", False, True))
        self.assertEqual((paper.basis, paper.program, paper.growth, paper.reason), (program, program, growth, reason))
        for other in ("empty", "values", "behind", "rounds", *ODD):
            self.assertEqual(Stays(program, growth, other).holds(), other == reason)

    def test_cases(self):
        for lines, *told in CASES:
            program = program_of(*lines)
            for growth, reason in zip(GROWTHS, told):
                with self.subTest(lines=lines, growth=growth):
                    if reason is None:
                        self.shows(program, growth)
                    else:
                        self.stays(program, growth, reason)

    def test_the_reason_of_a_program_that_moves_is_none(self):
        for lines, *told in CASES:
            program = program_of(*lines)
            for growth, reason in zip(GROWTHS, told):
                if reason is None:
                    for other in ("empty", "values", "behind", "rounds", *ODD):
                        self.assertFalse(Stays(program, growth, other).holds())

    def test_each_share_with_each_number_of_copies(self):
        for twice in ([], [2], [3], [2, 2], [2, 3], [3, 3]):
            for b in range(2, 13):
                for a in range(1, b):
                    steps = [("twice", many) for many in twice] + [("cut", "share", a, b)]
                    self.shows(Program([("a", "name"), ("t", "tick")], steps), GROWTHS[(a + b) % 3])

    def test_each_single_rest_with_each_number_of_copies(self):
        for copies, many in (((), 1), ((("twice", 2),), 2), ((("twice", 3),), 3), ((("twice", 2), ("twice", 2)), 4)):
            for modulus in range(2, 13):
                for rest in range(modulus):
                    program = Program([("a", "name")], [*copies, ("cut", "rounds", modulus, (rest,))])
                    mixed = all(len({place % modulus == rest for place in range(k * many, k * many + many)}) == 2
                                for k in range(modulus))
                    with self.subTest(copies=copies, modulus=modulus, rest=rest):
                        if mixed:
                            self.stays(program, "any", "rounds")
                        else:
                            self.shows(program, "any")
                    self.shows(Program([("a", "name")], [*copies, ("cut", "groups", ("a",), modulus, (rest,))]), "any")

    def test_wrong_words(self):
        program = program_of("main a:name", "cut throw")
        for value in ODD:
            with self.subTest(value=value), self.assertRaises(InvalidWord) as caught:
                grown(program, value)
            self.assertEqual((caught.exception.given, caught.exception.code), (value, "InvalidWord"))


class BentTest(unittest.TestCase):
    """Papers that are right but for one part."""

    # The throws put one row into learn, and into judge at the next place.
    program = program_of("main a:name t:tick u:tick k:x/y", "key a", "sort t", "cut throw")
    rows = [("a", 5, 1, "x"), ("b", 7, 0, "y")]
    setting = Setting(throws=[0, 0, 1])

    def paper(self, **bent):
        """Under `end` a row with a lesser tick comes behind all rows, and ahead of them at the cut."""
        given = {"program": self.program, "growth": "end", "tables": Tables(self.program, self.rows),
                 "setting": self.setting, "newcomer": ("c", 6, 9, "x"), "place": 2, "own": 1}
        given.update(bent)
        return Moves(**given)

    def test_right(self):
        self.assertTrue(self.paper().holds())
        self.assertTrue(self.paper(growth="any").holds())
        self.assertTrue(self.paper(newcomer=("c", -9, 9, "x")).holds())
        self.assertTrue(self.paper(newcomer=("c", 5, 0, "y")).holds())
        self.assertTrue(self.paper(tables=Tables(Program.read(self.program.text()), self.rows)).holds())

    def test_place(self):
        for place in (0, 1, 3, -1, *ODD):
            with self.subTest(place=place):
                self.assertFalse(self.paper(place=place).holds())
        # Where it comes in does not matter behind a sort by unlike ticks.
        for place in (0, 1, 2):
            self.assertTrue(self.paper(growth="any", place=place).holds())
        for place in (3, -1, True, False, None, "1", [1], (1,)):
            self.assertFalse(self.paper(growth="any", place=place).holds())

    def test_newcomer(self):
        wrong = [("a", 6, 9, "x"), ("c", 6, 9), ("c", 6, 9, "z"), ("c", 6, 9, "x", 1), ["c", 6, 9, "x"], ("C", 6, 9, "x"),
                 ("c", "6", 9, "x"), ("c", True, 9, "x"), ("c", None, 9, "x"), ("c", 6, [9], "x"), ("c", 7, 0, "x"),
                 ("c", 8, 0, "x"), *ODD]
        for newcomer in wrong:
            with self.subTest(newcomer=newcomer):
                self.assertFalse(self.paper(newcomer=newcomer).holds())
                self.assertFalse(self.paper(newcomer=newcomer, growth="late").holds())

    def test_own(self):
        for own in (0, 2, -1, *ODD):
            with self.subTest(own=own):
                self.assertFalse(self.paper(own=own).holds())

    def test_true_is_no_number(self):
        self.assertFalse(self.paper(own=True).holds())
        setting = Setting(throws=[0, 1])
        rows = [("a", 5, 1, "x")]
        tables = Tables(self.program, rows)
        right = {"tables": tables, "setting": setting, "newcomer": ("c", 4, 9, "x")}
        self.assertTrue(self.paper(place=1, own=0, **right).holds())
        self.assertFalse(self.paper(place=True, own=0, **right).holds())
        self.assertFalse(self.paper(place=1, own=False, **right).holds())

    def test_growth(self):
        self.assertFalse(self.paper(growth="late").holds())

    def test_tables(self):
        other = Program.read("main a:name t:tick u:tick k:x/y\nkey a\nsort u\ncut throw\n")
        free = Program.read("main a:name t:tick u:tick k:x/y\nsort t\ncut throw\n")
        self.assertTrue(self.paper(program=free, tables=Tables(free, self.rows)).holds())
        for tables in (Tables(other, self.rows), Tables(free, self.rows), Tables(self.program, []),
                       Tables(self.program, self.rows[:1]), Tables(self.program, self.rows[::-1]), self.rows, self.program, *ODD):
            with self.subTest(tables=tables):
                self.assertFalse(self.paper(tables=tables).holds())

    def test_setting(self):
        for throws in ([], [0], [0, 1, 1], [1, 1, 1], [0, 0, 0, 1]):
            self.assertFalse(self.paper(setting=Setting(throws=throws)).holds())

    def test_a_lot_more_is_enough(self):
        """The row keeps its elder lot and gets another one."""
        program = program_of("main a:name", "twice 2", "cut throw")
        tables = Tables(program, [("a",)])
        throws = {(0, 0, 0, 1): True, (0, 0, 1, 1): True, (0, 0, 0, 0): False, (0, 1, 0, 0): False, (0, 1, 1, 1): False,
                  (1, 1, 1, 0): True, (1, 1, 1, 1): False, (1, 0, 0, 1): False}
        for told, right in throws.items():
            paper = Moves(program, "any", tables, Setting(throws=told), ("b",), 0, 0)
            self.assertEqual(paper.holds(), right, told)
            self.assertFalse(Moves(program, "any", tables, Setting(throws=told), ("b",), 1, 0).holds())

    def test_lots_at_the_cut(self):
        """Whether the rows come through the steps behind the cut does not matter."""
        program = program_of("main a:name b:name", "cut throw", "once a")
        tables = Tables(program, [("x", "p"), ("x", "q")])
        # The other row is in judge without the newcomer, too, but no last row.
        self.assertFalse(Moves(program, "any", tables, Setting(throws=[1, 1, 1]), ("z", "p"), 0, 1).holds())
        tables = Tables(program, [("y", "p"), ("x", "q")])
        # It comes into judge, where the newcomer takes its place among the last rows.
        self.assertTrue(Moves(program, "any", tables, Setting(throws=[1, 0, 1]), ("x", "p"), 0, 1).holds())

    def test_late(self):
        """Each tick of a late newcomer has to be no less than those of the others."""
        program = program_of("main a:name t:tick u:tick", "cut share 1 2")
        tables = Tables(program, [("a", 1, 5), ("b", 3, 2), ("c", 2, 2)])
        for t in range(0, 6):
            for u in range(0, 8):
                paper = Moves(program, "late", tables, Setting(), ("d", t, u), 3, 1)
                self.assertEqual(paper.holds(), t >= 3 and u >= 5)
                self.assertTrue(Moves(program, "end", tables, Setting(), ("d", t, u), 3, 1).holds())
                self.assertFalse(Moves(program, "late", tables, Setting(), ("d", t, u), 2, 1).holds())
        empty = Tables(program, [])
        self.assertFalse(Moves(program, "late", empty, Setting(), ("d", 1, 1), 0, 0).holds())

    def test_by_a_program_that_stays(self):
        program = program_of("main a:name t:tick", "sort t", "cut before t 3")
        for growth in GROWTHS:
            for own in range(3):
                tables = Tables(program, [("a", 1), ("b", 3), ("c", 5)])
                self.assertFalse(Moves(program, growth, tables, Setting(), ("d", 6), 3, own).holds())

    def test_sides_stay(self):
        """A newcomer has no partners but those that are there."""
        program = program_of("main a:name", "side s one h:name", "join s a", "cut throw")
        for sides, right in (({"s": [("a", "x"), ("b", "x")]}, True), ({"s": [("a", "x")]}, False)):
            paper = Moves(program, "any", Tables(program, [("a",)], sides), Setting(throws=[0, 1]), ("b",), 0, 0)
            self.assertEqual(paper.holds(), right)

    def test_what_was_given_is_told(self):
        for value in ODD:
            paper = self.paper(tables=value, newcomer=value, place=value, own=value)
            self.assertEqual([paper.tables, paper.newcomer, paper.place, paper.own], [value] * 4)
            self.assertEqual((paper.told(), bool(paper), repr(paper), paper.holds()), ("moves", True, "Paper(moves)", False))
            paper = Stays(self.program, "end", value)
            self.assertEqual((paper.reason, paper.told(), bool(paper), repr(paper), paper.holds()),
                             (value, "stays", False, "Paper(stays)", False))
        self.assertEqual(self.paper().setting, self.setting)

    def test_lists_are_copied(self):
        def made(name, value):
            return Stays(self.program, "end", value) if name == "reason" else self.paper(**{name: value})

        for name in ("newcomer", "tables", "place", "own", "reason"):
            given = ["c", [6], ([9], "x")]
            paper = made(name, given)
            for changed in (given, getattr(paper, name)):
                changed.append(1)
                changed[1].append(1)
                changed[2][0].append(1)
                self.assertEqual(getattr(paper, name), ["c", [6], ([9], "x")])

    def test_papers(self):
        for paper in (self.paper(), Stays(self.program, "late", "behind")):
            self.assertIsInstance(paper, Paper)
            self.assertEqual(paper.basis, self.program)
            self.assertEqual(repr(paper), f"Paper({paper.told()})")


class ByChanceTest(unittest.TestCase):
    def test_programs(self):
        """Of many programs the papers hold, and with a Stays no row moves in any tables."""
        told = set()
        for seed in range(100):
            chance = random.Random(seed)
            program = drawn_program(chance)
            for growth in GROWTHS:
                paper = grown(program, growth)
                with self.subTest(seed=seed, growth=growth):
                    self.assertTrue(paper.holds())
                    if not paper:
                        for _ in range(4):
                            self.stands(program, growth, chance)
                told.add((program.step(program.cut_at)[1], growth, paper.told()))
        self.assertGreater(len(told), 18)

    def stands(self, program, growth, chance):
        tables, setting = drawn_tables(program, chance)
        rows = tables.rows()
        newcomer = list(rows.pop(chance.randrange(len(rows))))
        place = chance.randint(0, len(rows)) if growth == "any" else len(rows)
        kinds = [kind for _, kind in program.main if kind != "worth"]
        for at, kind in enumerate(kinds):
            if growth == "late" and kind == "tick":
                newcomer[at] = max([newcomer[at]] + [row[at] for row in rows])
        shorter = Tables(program, rows, {name: tables.side(name) for name, _, _ in program.sides})
        try:
            longer = shorter.with_row(tuple(newcomer), at=place)
        except InvalidRow:
            return
        self.assertEqual(naive.movers(lambda told: Run(program, told, setting), shorter, longer, place), [])


if __name__ == "__main__":
    unittest.main()
