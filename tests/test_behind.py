"""Steps that are moved behind the cut, and the least sets of them that are enough."""

import itertools
import random
import unittest

import naive
from bothlots.behind import least_moves, movable, moved
from bothlots.errors import InvalidStep, InvalidWord, UnknownColumn
from bothlots.hangs import leak
from bothlots.programs import Program
from bothlots.runs import Run
from bothlots.tables import Tables
from samples import drawn_program

LOTS = ("learn", "judge")
ODD = (None, True, False, -1, 99, "", "1", "near", (), [], (1,), [1], [(1,)], [[], (1, [2])])


def text_of(*lines):
    return "".join(line + "\n" for line in lines)


def program_of(*lines):
    return Program.read(text_of(*lines))


HEAD = ["main a:name b:name t:tick w:worth v:worth"]
STEPS = ["near last w a", "sort t", "all v", "near next w b", "twice 2", "cut before t 7", "once a", "all w b", "near last v"]


class MovedTest(unittest.TestCase):
    program = program_of(*HEAD, *STEPS)

    def test_movable(self):
        self.assertEqual(movable(self.program), [0, 2, 3])
        self.assertEqual(movable(program_of(*HEAD, "sort t", "cut throw", "all w")), [])
        self.assertEqual(movable(program_of(*HEAD, "all w", "cut throw")), [0])
        found = movable(self.program)
        found.append(9)
        self.assertEqual(movable(self.program), [0, 2, 3])

    def test_texts(self):
        near, sort, both, after, twice, cut, once, behind, last = STEPS
        for steps, lines in (
                ((), STEPS),
                ((0,), [sort, both, after, twice, cut, once, behind, last, near]),
                ((2,), [near, sort, after, twice, cut, once, behind, last, both]),
                ((3,), [near, sort, both, twice, cut, once, behind, last, after]),
                ((0, 2), [sort, after, twice, cut, once, behind, last, near, both]),
                ((0, 3), [sort, both, twice, cut, once, behind, last, near, after]),
                ((0, 2, 3), [sort, twice, cut, once, behind, last, near, both, after])):
            for order in itertools.permutations(steps):
                with self.subTest(order=order):
                    self.assertEqual(moved(self.program, *order).text(), text_of(*HEAD, *lines))

    def test_all_parts_stay(self):
        program = program_of("main a:name t:tick k:x/y w:worth", "key a t", "side s one h:name", "side u many h:name",
                             "left s a", "near last w k", "fan u s.h", "cut share 1 2")
        found = moved(program, 1)
        self.assertEqual(found.text(), text_of(
            "main a:name t:tick k:x/y w:worth", "key a t", "side s one h:name", "side u many h:name", "left s a", "fan u s.h",
            "cut share 1 2", "near last w k"))
        self.assertEqual((found.main, found.sides, found.unique), (program.main, program.sides, program.unique))
        self.assertEqual(program.text().count("near"), 1)

    def test_one_by_one(self):
        """The foremost step first, each one at its place in the program that is left."""
        at_once = moved(self.program, 3, 0, 2)
        self.assertEqual(moved(moved(moved(self.program, 0), 1), 1), at_once)
        self.assertNotEqual(moved(moved(self.program, 2), 0), moved(self.program, 0, 2))

    def test_wrong_steps(self):
        """The first value that is no such step, or stands ahead of itself."""
        for value in (*ODD, 1, 4, 5, 6, 7, 8, 9):
            for steps in ((value,), (0, value), (3, 2, value, 1), (value, 0, 0), (value, value)):
                with self.subTest(steps=steps), self.assertRaises(InvalidStep) as caught:
                    moved(self.program, *steps)
                self.assertEqual((caught.exception.at, caught.exception.code), (value, "InvalidStep"))
                self.assertEqual(type(caught.exception.at), type(value))

    def test_twice(self):
        for steps, value in (((0, 0), 0), ((2, 3, 2), 2), ((3, 2, 3, 2), 3), ((0, 2, 3, 2, 1), 2), ((0, 1, 0), 1)):
            with self.subTest(steps=steps), self.assertRaises(InvalidStep) as caught:
                moved(self.program, *steps)
            self.assertEqual(caught.exception.at, value)

    def test_true_is_no_step(self):
        program = program_of(*HEAD, "all w", "all v", "cut throw")
        for steps, value in (((True,), True), ((0, True), True), ((False, 1), False), ((1, False), False)):
            with self.assertRaises(InvalidStep) as caught:
                moved(program, *steps)
            self.assertIs(caught.exception.at, value)

    def test_each_lot_by_itself(self):
        program = program_of("main a:name t:tick w:worth", "all w a", "cut before t 2")
        tables = [("a", 1), ("a", 3), ("b", 1), ("a", 4)]
        for found, hung in ((program, [[0, 1, 3], [2], [0, 1, 3], [0, 1, 3]]), (moved(program, 0), [[0], [2], [1, 3], [1, 3]])):
            run = Run(found, Tables(found, tables))
            self.assertEqual([run.hangs_on(number, "w") for number in range(4)], hung)


TAGS = "main a:name kx:u/v/w ky:m/n/o w:worth"
THREE = "keep or and is kx u is ky m and is kx v is ky o"
MANY = "keep or or or and is kx u is ky m and is kx u is ky n and is kx v is ky n and is kx v is ky o"

# Programs with the least sets for learn, for judge and for both.
CASES = (
    (["main a:name t:tick w:worth", "cut throw", "all w"], [()], [()], [()]),
    (["main a:name t:tick w:worth", "all w t", "cut before t 3"], [()], [()], [()]),
    (["main a:name t:tick w:worth", "all w", "cut throw"], [(0,)], [(0,)], [(0,)]),
    (["main a:name t:tick w:worth v:worth", "all v", "all w", "cut throw"], [(1,)], [(1,)], [(1,)]),
    (["main a:name t:tick w:worth v:worth", "all v", "cut throw"], [()], [()], [()]),
    (["main a:name t:tick w:worth", "sort t", "near last w a", "near next w a", "cut before t 7"], [(2,)], [(1,)], [(1, 2)]),
    (["main a:name t:tick w:worth", "sort t", "near next w a", "all w t", "near last w a", "cut share 1 3"],
     [(1, 2)], [(2, 3)], [(1, 2, 3)]),
    (["main a:name t:tick w:worth", "sort t", "near next w a", "all w a t", "near last w a", "cut before t 3"],
     [(1,)], [(3,)], [(1, 3)]),
    (["main a:name b:name w:worth", "all w a", "all w b", "all w a b", "cut mark 3 1 a"], [(1,)], [(1,)], [(1,)]),
    (["main a:name b:name w:worth", "all w a", "all w b", "all w a b", "cut mark 3 1 a b"], [(0, 1)], [(0, 1)], [(0, 1)]),
    # A way needs two or three steps: one of them is enough.
    (["main a:name kx:u/v ky:m/n w:worth", "all w ky", "all w kx", "keep or and is kx u is ky m and is kx v is ky n",
      "cut mark 2 0 kx ky"], [(0,), (1,)], [(0,), (1,)], [(0,), (1,)]),
    ([TAGS, MANY, "all w kx", "all w ky", "all w kx", THREE, "cut mark 3 1 kx"], [(1,), (2,), (3,)], [(1,), (2,), (3,)],
     [(1,), (2,), (3,)]),
    ([TAGS, MANY, "all w kx", "all w ky", "all w kx", "all w ky", THREE, "cut mark 3 1 kx"],
     [(1,), (2,), (3,)], [(1,), (2,), (3,)], [(1,), (2,), (3,)]),
    ([TAGS, MANY, "all w kx", "all w kx", "all w ky", "all w kx", "all w kx", THREE, "cut mark 3 1 ky"],
     [(3,), (1, 2), (4, 5)], [(3,), (1, 2), (4, 5)], [(3,), (1, 2), (4, 5)]),
    ([TAGS, MANY, "all w kx", "all w kx", "all w ky", "all w ky", "all w kx", THREE, "cut mark 3 1 ky"],
     [(5,), (1, 2), (3, 4)], [(5,), (1, 2), (3, 4)], [(5,), (1, 2), (3, 4)]),
    # With rows in both lots no set is enough.
    (["main a:name w:worth", "all w", "twice 2", "cut throw"], [], [], []),
    (["main a:name w:worth", "side f many p:name", "near last w", "fan f a", "cut groups 2 1 a f.p"], [], [], []),
    (["main a:name w:worth", "near last w", "twice 2", "cut rounds 4 0,1"], [(0,)], [(0,)], [(0,)]),
    (["main a:name t:tick w:worth", "near last w", "twice 2", "cut before t 3"], [(0,)], [(0,)], [(0,)]),
    (["main a:name k:x/y w:worth", "keep is k x", "keep is k y", "near last w", "twice 2", "cut throw"], [()], [()], [()]),
    (["main a:name t:tick u:tick w:worth", "sort t", "near last w u", "sort u", "near last w a", "cut before t 3"],
     [(3,)], [(1, 3)], [(1, 3)]),
)


class LeastTest(unittest.TestCase):
    def test_cases(self):
        for lines, learn, judge, both in CASES:
            program = program_of(*lines)
            with self.subTest(lines=lines):
                found = [least_moves(program, "w", lot=lot) for lot in ("learn", "judge", None)]
                self.assertEqual(found, [naive.least_moves(program, "w", lots) for lots in (LOTS[:1], LOTS[1:], LOTS)])
                self.assertEqual(found, [learn, judge, both])
                self.assertEqual(least_moves(program, "w"), both)

    def test_enough_and_least(self):
        for lines, _, _, both in CASES:
            program = program_of(*lines)
            steps = [at for at in movable(program) if program.step(at)[1] == "w"]
            for many in range(len(steps) + 1):
                for chosen in itertools.combinations(steps, many):
                    enough = not any(leak(moved(program, *chosen), "w", lot) for lot in LOTS)
                    self.assertEqual(enough, any(set(least) <= set(chosen) for least in both))

    def test_many_steps(self):
        columns = ["a", "b", "t", "a t", "b t", "a b", "a b t", "t", "a b t u", "a", "b"]
        program = program_of("main a:name b:name t:tick u:tick w:worth", *[f"all w {each}" for each in columns], "cut mark 2 1 a b t u")
        self.assertEqual(least_moves(program, "w"), [(0, 1, 2, 3, 4, 5, 6, 7, 9, 10)])
        columns = ["kx", "ky"] * 5
        program = program_of(TAGS, *[f"all w {each} a" for each in columns], "cut mark 2 1 kx ky")
        self.assertEqual(least_moves(program, "w"), [tuple(range(10))])
        program = program_of("main a:name b:name w:worth", *["all w a", "all w b"] * 5, "cut mark 2 1 a")
        self.assertEqual(least_moves(program, "w"), [(1, 3, 5, 7, 9)])

    def test_wrong_values(self):
        program = program_of(*HEAD, "all w", "cut throw")
        for worth in (*ODD, 0, 1, "a", "t", "own", "ww", ("w",), ["w"]):
            for lot in (None, "learn", "lots", 7):
                with self.subTest(worth=worth, lot=lot), self.assertRaises(UnknownColumn) as caught:
                    least_moves(program, worth, lot=lot)
                self.assertEqual((caught.exception.name, caught.exception.code), (worth, "UnknownColumn"))
        for lot in (*ODD[1:], 0, 1, "both", "Learn", "learn ", ("learn",), ["judge"], LOTS):
            with self.subTest(lot=lot), self.assertRaises(InvalidWord) as caught:
                least_moves(program, "w", lot=lot)
            self.assertEqual((caught.exception.given, caught.exception.code), (lot, "InvalidWord"))

    def test_by_chance(self):
        sizes = set()
        for seed in range(150):
            program = drawn_program(random.Random(seed))
            (worth,) = program.columns_of("worth")
            if len(movable(program)) < 4:
                for lots in (LOTS[:1], LOTS[1:], LOTS):
                    with self.subTest(seed=seed, lots=lots):
                        found = least_moves(program, worth, lot=lots[0] if len(lots) == 1 else None)
                        expected = []
                        for many in range(len(movable(program)) + 1):
                            for chosen in itertools.combinations(movable(program), many):
                                if not any(set(least) <= set(chosen) for least in expected):
                                    if not any(leak(naive.moved(program, chosen), worth, lot) for lot in lots):
                                        expected.append(chosen)
                        self.assertEqual(found, expected)
                        sizes.add((len(movable(program)), len(found)))
        self.assertTrue({(0, 0), (0, 1), (1, 0), (1, 1), (2, 1), (3, 1)} <= sizes)


if __name__ == "__main__":
    unittest.main()
