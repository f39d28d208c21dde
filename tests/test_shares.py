"""The least and the greatest number of rows in judge, for all tables with so many rows at the cut."""

import itertools
import random
import unittest

from bothlots.errors import InvalidNumber, Untold
from bothlots.programs import Program
from bothlots.runs import Run
from bothlots.shares import span
from bothlots.tables import Setting, Tables
from samples import drawn_program, drawn_tables

MOST = 100000
ODD = (None, True, False, -1, -7, 10 ** 6, 10 ** 14, "", "7", (), [], (1,), [7], (7, 7), [[], (1, [2])])


def program_of(*lines):
    return Program.read("".join(line + "\n" for line in lines))


def spans_by_trying(program, pools, most):
    """For each number of rows at the cut the least and the greatest number in judge, over small tables.

    The pools are lists of the values of the columns of the main table, and of the rows of a side of a fan.
    """
    columns, partners = pools
    rows = list(itertools.product(*columns))
    found = {}
    keys = [[name for name, kind in program.main if kind != "worth"].index(name) for name in program.unique]
    for many in range(most + 1):
        for chosen in itertools.product(rows, repeat=many):
            if program.unique and len({tuple(row[at] for at in keys) for row in chosen}) < many:
                continue
            for sides in partners:
                for run in runs_of(program, Tables(program, list(chosen), sides)):
                    lots = [lot for _, lot in run.at_cut()]
                    judged = lots.count("judge")
                    least, greatest = found.get(len(lots), (judged, judged))
                    found[len(lots)] = (min(least, judged), max(greatest, judged))
    return found


def runs_of(program, tables):
    """The runs with all marks and throws that matter."""
    cut = program.step(program.cut_at)
    if cut[1] == "throw":
        for throws in itertools.product((0, 1), repeat=len(Run(program, tables).at_cut())):
            yield Run(program, tables, Setting(throws=throws))
    elif cut[1] == "mark":
        values = sorted({values for _, values in Run(program, tables).values_at_cut(cut[2])})
        for marks in itertools.product(range(cut[3]), repeat=len(values)):
            yield Run(program, tables, Setting(dict(zip(values, marks))))
    else:
        yield Run(program, tables)


ABC = ["a", "b", "c"]
ABCD = ["a", "b", "c", "d"]
NONE = [{}]
FANS = [{"f": [("a", "p")]}, {"f": [("a", "p"), ("a", "p"), ("a", "q")]},
        {"f": [("a", "p"), ("b", "p"), ("b", "p"), ("c", "q"), ("d", "r")]}]
SIDES = [{"s": [("a", "p"), ("b", "q"), ("c", "r")]}]

# Programs with pools of values, and the numbers of rows of small tables to be tried.
TRIED = (
    (["main a:name", "cut rounds 3 0,2"], [[ABC]], NONE, 4),
    (["main a:name", "twice 2", "cut rounds 3 1"], [[ABC]], NONE, 3),
    (["main a:name", "twice 3", "twice 2", "cut rounds 4 1,3"], [[ABC]], NONE, 2),
    (["main a:name", "cut share 2 5"], [[ABC]], NONE, 4),
    (["main a:name", "once a", "twice 2", "cut share 11 12"], [[ABCD]], NONE, 4),
    (["main a:name t:tick", "key t", "cut before t 3"], [[["a"], [1, 2, 3, 4]]], NONE, 2),
    (["main a:name t:tick", "twice 3", "cut before t 3"], [[["a"], [1, 4]]], NONE, 2),
    (["main a:name", "cut throw"], [[["a", "b"]]], NONE, 4),
    (["main a:name", "key a", "twice 2", "cut throw"], [[["a", "b"]]], NONE, 2),
    (["main a:name b:name", "cut mark 2 1 a"], [[["a", "b"], ["a"]]], NONE, 4),
    (["main a:name", "key a", "twice 2", "cut mark 3 0,1 a"], [[ABC]], NONE, 3),
    # Wide groups, with the number 0 in learn and in judge.
    (["main a:name", "cut groups 3 1 a"], [[ABCD]], NONE, 4),
    (["main a:name", "cut groups 3 2 a"], [[ABCD]], NONE, 4),
    (["main a:name", "cut groups 3 0 a"], [[ABCD]], NONE, 4),
    (["main a:name", "cut groups 3 0,1 a"], [[ABCD]], NONE, 4),
    (["main a:name", "cut groups 4 0,2 a"], [[ABCD]], NONE, 4),
    (["main a:name b:name", "key b a", "cut groups 3 2 a"], [[ABC, ABCD]], NONE, 3),
    (["main a:name b:name", "once b a", "twice 2", "cut groups 3 1,2 a"], [[ABC, ABC]], NONE, 3),
    (["main a:name k:x/y", "key a k", "cut groups 2 1 k a"], [[ABC, ["x", "y"]]], NONE, 4),
    # Rows with partners can be together in a group, those without one cannot.
    (["main a:name b:name", "side s one h:name", "left s b", "once a s.h", "cut groups 2 1 a"], [[ABC, [*ABC, "e"]]], SIDES, 3),
    # Each row has a group of its own.
    (["main a:name", "key a", "cut groups 3 1 a"], [[ABCD]], NONE, 4),
    (["main a:name", "once a", "twice 2", "cut groups 3 0,1 a"], [[ABCD]], NONE, 4),
    (["main a:name k:x/y", "key a k", "keep is k x", "cut groups 2 1 a"], [[ABCD, ["x", "y"]]], NONE, 4),
    (["main a:name k:x/y", "once k a", "keep is k x", "cut groups 2 0 a"], [[ABCD, ["x", "y"]]], NONE, 4),
    # With a fan a group can have any number of rows.
    (["main a:name", "key a", "side f many p:name", "fan f a", "cut groups 2 1 a"], [[ABC]], FANS, 3),
    (["main a:name", "key a", "side f many p:name", "fan f a", "twice 2", "cut groups 2 1 a"], [[ABC]], FANS, 3),
)


class TriedTest(unittest.TestCase):
    def test_small_tables(self):
        for lines, columns, partners, most in TRIED:
            program = program_of(*lines)
            found = spans_by_trying(program, (columns[0], partners), most)
            for number in range(1, most * program.many + 1):
                with self.subTest(lines=lines, number=number):
                    self.assertEqual(span(program, number), found.get(number))


class NumbersTest(unittest.TestCase):
    def check(self, lines, numbers):
        program = program_of(*lines)
        for number, expected in numbers.items():
            with self.subTest(lines=lines, number=number):
                self.assertEqual(span(program, number), expected)
        self.assertEqual(span(program, 0), (0, 0))

    def test_rounds(self):
        self.check(["main a:name", "cut rounds 4 0,3"],
                   {1: (1, 1), 2: (1, 1), 3: (1, 1), 4: (2, 2), 5: (3, 3), 399: (199, 199), MOST: (50000, 50000)})
        self.check(["main a:name", "twice 2", "twice 3", "cut rounds 7 6"],
                   {1: None, 5: None, 6: (0, 0), 7: None, 12: (1, 1), 42: (6, 6), 600: (85, 85), MOST: None, 99996: (14285, 14285)})

    def test_share(self):
        self.check(["main a:name", "cut share 2 3"],
                   {1: (1, 1), 2: (1, 1), 3: (1, 1), 4: (2, 2), 5: (2, 2), 100: (34, 34), MOST: (33334, 33334)})
        self.check(["main a:name", "twice 3", "cut share 11 12"], {3: (1, 1), 4: None, 12: (1, 1), 15: (2, 2), MOST: None})

    def test_values_and_throws(self):
        for cut in ("cut mark 3 0 a", "cut before t 7", "cut throw"):
            self.check(["main a:name t:tick", cut], {1: (0, 1), 2: (0, 2), 313: (0, 313), MOST: (0, MOST)})
            self.check(["main a:name t:tick", "key a", "twice 2", cut], {1: None, 2: (0, 2), 313: None, MOST: (0, MOST)})

    def test_wide_groups(self):
        self.check(["main a:name b:name", "key b a", "twice 2", "cut groups 5 3,4 a"],
                   {2: (0, 0), 4: (0, 0), 6: (0, 0), 7: None, 8: (0, 2), 10: (0, 4), 300: (0, 294), MOST: (0, 99994)})
        self.check(["main a:name b:name", "twice 2", "cut groups 5 0,1,4 a"],
                   {2: (2, 2), 4: (4, 4), 6: (4, 6), 7: None, 300: (4, 300), MOST: (4, MOST)})
        self.check(["main a:name", "cut groups 12 11 a"], {11: (0, 0), 12: (0, 1), 13: (0, 2), MOST: (0, MOST - 11)})

    def test_own_groups(self):
        for lines in (["main a:name k:x/y", "key a"], ["main a:name k:x/y", "once a"], ["main a:name k:x", "key k a"],
                      ["main a:name k:x/y", "once a k", "keep not is k x"], ["main k:x/y a:name", "key a k", "keep is k y"]):
            self.check([*lines, "cut groups 3 1 a"], {1: (0, 0), 2: (1, 1), 3: (1, 1), 5: (2, 2), 299: (100, 100),
                                                      MOST: (33333, 33333)})
            self.check([*lines, "twice 2", "cut groups 3 0,1 a"],
                       {2: (2, 2), 4: (4, 4), 6: (4, 4), 7: None, 8: (6, 6), 600: (400, 400), MOST: (66668, 66668)})

    def test_own_groups_by_what_follows(self):
        lines = ["main a:name b:name", "key b", "side s one h:name", "left s a"]
        self.check([*lines, "cut groups 2 1 a b s.h"], {1: (0, 0), 2: (1, 1), 7: (3, 3)})
        self.check([*lines, "once s.h a", "cut groups 2 1 a"], {1: (0, 0), 2: (1, 1), 7: (3, 3)})
        self.check([*lines, "once b s.h", "cut groups 2 1 a"], {1: (0, 0), 2: (0, 1), 7: (0, 6)})

    def test_one_look_with_wide_groups_is_enough(self):
        """With a partner the key follows from the columns of the groups, without one it does not."""
        lines = ["main a:name b:name", "key a b", "side s one h:name k:x/y", "left s b"]
        self.check([*lines, "keep has s", "cut groups 2 1 a"], {1: (0, 0), 2: (0, 1), 7: (0, 6)})
        lines = ["main b:name a:name", "side s one h:name", "left s a", "once a s.h b"]
        self.check([*lines, "cut groups 2 1 a b"], {1: (0, 0), 2: (1, 1), 7: (3, 3)})
        lines = ["main a:name", "side s one h:name", "left s a", "once a s.h", "cut groups 2 1 a s.h"]
        self.check(lines, {1: (0, 0), 2: (1, 1), 7: (3, 3)})

    def test_fan(self):
        lines = ["main a:name", "key a", "side f many p:name q:x/y", "fan f a"]
        for columns in ("a", "f.q a", "f.p a f.q"):
            self.check([*lines, f"cut groups 3 2 {columns}"], {1: (0, 0), 2: (0, 0), 3: (0, 1), 9: (0, 7)})
            self.check([*lines, "twice 2", f"cut groups 3 0,1 {columns}"], {2: (2, 2), 3: None, 4: (4, 4), 6: (4, 6)})
        self.check([*lines, "cut rounds 2 1"], {1: (0, 0), 7: (3, 3)})

    def test_no_look_reaches_the_cut(self):
        for cut in ("cut rounds 2 1", "cut share 1 2", "cut throw", "cut mark 2 0 a", "cut groups 2 0 a"):
            self.check(["main a:name k:x/y", "key a k", "keep is k x", "keep is k y", cut], {1: None, 2: None, 300: None, MOST: None})


# The tags of two rows of a group can be unlike, so a group has one row or two.
UNTOLD = (
    ["main a:name k:x/y", "key a k", "cut groups 3 1 a"],
    ["main a:name k:x/y", "once k a", "cut groups 3 0 a"],
    ["main a:name b:name k:x/y", "key k a", "cut groups 3 0,1 b a"],
    ["main a:name k:x/y l:u/v", "key a k l", "keep is k y", "cut groups 2 1 a"],
    ["main a:name k:x/y l:u/v", "key a k l", "cut groups 2 1 a l"],
)


class UntoldTest(unittest.TestCase):
    def test_untold(self):
        for lines in UNTOLD:
            program = program_of(*lines)
            for number in (1, 2, 3, 300, MOST):
                with self.subTest(lines=lines, number=number), self.assertRaises(Untold) as caught:
                    span(program, number)
                self.assertEqual(caught.exception.code, "Untold")
            self.assertEqual(span(program, 0), (0, 0))

    def test_only_if_there_are_such_tables(self):
        for lines in UNTOLD:
            program = program_of(*lines[:-1], "twice 3", lines[-1])
            for number in (1, 2, 4, 301, MOST):
                self.assertIsNone(span(program, number))
            for number in (3, 300):
                with self.assertRaises(Untold):
                    span(program, number)
            self.assertEqual(span(program, 0), (0, 0))

    def test_told_with_all_tags_among_the_columns(self):
        self.assertEqual(span(program_of("main a:name k:x/y", "key a k", "cut groups 3 1 k a"), 5), (2, 2))

    def test_told_with_a_fan(self):
        for lines in UNTOLD:
            at = [line.split(" ")[0] in ("main", "key") for line in lines].index(False)
            program = program_of(*lines[:at], "side f many p:name", *lines[at:-1], "fan f a", lines[-1])
            self.assertEqual(span(program, 1)[0] == 1, "0" in lines[-1])


class WrongTest(unittest.TestCase):
    def test_wrong_numbers(self):
        """A wrong number goes ahead of all, also where nothing is told or no look reaches the cut."""
        for lines in (["main a:name", "cut throw"], UNTOLD[0], ["main a:name k:x", "keep not is k x", "cut share 1 2"]):
            program = program_of(*lines)
            for number in (*ODD, MOST + 1, 999999999999999, -999999999999999):
                with self.subTest(number=number), self.assertRaises(InvalidNumber) as caught:
                    span(program, number)
                self.assertEqual((caught.exception.given, caught.exception.code), (number, "InvalidNumber"))

    def test_kinds(self):
        found = span(program_of("main a:name", "cut rounds 2 1"), 9)
        self.assertEqual((type(found), [type(number) for number in found]), (tuple, [int, int]))


class ByChanceTest(unittest.TestCase):
    def test_tables_are_within(self):
        for seed in range(150):
            chance = random.Random(seed)
            program = drawn_program(chance)
            for _ in range(5):
                run = Run(program, *drawn_tables(program, chance))
                lots = [lot for _, lot in run.at_cut()]
                with self.subTest(seed=seed):
                    try:
                        least, greatest = span(program, len(lots))
                    except Untold:
                        continue
                    self.assertTrue(least <= lots.count("judge") <= greatest)


if __name__ == "__main__":
    unittest.main()
