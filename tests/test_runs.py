"""Runs: what each step and each cut does to the rows, and what a run tells."""

import unittest

from bothlots.errors import InvalidThing, InvalidWord, OtherProgram, UnknownColumn, UnknownRow
from bothlots.programs import Program
from bothlots.runs import Run
from bothlots.tables import Setting, Tables

MAIN = [("person", "name"), ("day", "tick"), ("hour", "tick"), ("kind", ("cat", "dog")), ("pulse", "worth"),
        ("heat", "worth")]
PEOPLE = ("people", "one", [("home", "name"), ("far", ("near", "away"))])
HOMES = ("homes", "one", [("owner", "name")])
VISITS = ("visits", "many", [("place", "name"), ("long", ("yes", "no"))])
SIDES = [PEOPLE, HOMES, VISITS]
THROW = ("cut", "throw")
ROWS = [("ann", 3, 1, "cat"), ("bob", 1, 2, "dog"), ("ann", 2, 1, "dog"), ("cid", 1, 1, "cat"), ("bob", 3, 2, "cat")]
GIVEN = {"people": [("bob", "rome", "away"), ("ann", "oslo", "near")], "homes": [("rome", "ann"), ("riga", "eve")],
         "visits": [("ann", "sea", "yes"), ("bob", "hill", "no"), ("ann", "lake", "no"), ("ann", "sea", "no")]}


def run_of(steps, rows=ROWS, setting=None, sides=GIVEN):
    program = Program(MAIN, steps, sides=SIDES)
    return Run(program, Tables(program, rows, sides), setting)


def owns(run):
    return [own for own, _ in run.rows()]


def lots(run):
    return [lot for _, lot in run.at_cut()]


def hung(run, worth="pulse"):
    """For each last row its own row and the rows that its worth hangs on besides."""
    found = []
    for number, (own, _) in enumerate(run.rows()):
        told = run.hangs_on(number, worth)
        assert own in told and told == sorted(set(told))
        found.append((own, [other for other in told if other != own]))
    return found


class StepsTest(unittest.TestCase):
    def column(self, run, name):
        return [run.value(number, name) for number in range(len(run))]

    def test_nothing_ahead(self):
        run = run_of([THROW])
        self.assertEqual(run.rows(), [(at, "learn") for at in range(5)])
        self.assertEqual(self.column(run, "person"), ["ann", "bob", "ann", "cid", "bob"])
        self.assertEqual(self.column(run, "day"), [3, 1, 2, 1, 3])
        self.assertEqual(run_of([THROW], []).rows(), [])

    def test_keep(self):
        self.assertEqual(owns(run_of([("keep", ("is", "kind", "cat")), THROW])), [0, 3, 4])
        self.assertEqual(owns(run_of([("keep", ("not", ("is", "kind", "cat"))), THROW])), [1, 2])
        left = ("left", "people", "person")
        self.assertEqual(owns(run_of([left, ("keep", ("has", "people")), THROW])), [0, 1, 2, 4])
        self.assertEqual(owns(run_of([left, ("keep", ("is", "people.far", "near")), THROW])), [0, 2])
        # "is" does not hold for None.
        self.assertEqual(owns(run_of([left, ("keep", ("not", ("is", "people.far", "near"))), THROW])), [1, 3, 4])
        both = ("and", ("is", "kind", "cat"), ("not", ("is", "people.far", "away")))
        self.assertEqual(owns(run_of([left, ("keep", both), THROW])), [0, 3])

    def test_join(self):
        run = run_of([("join", "people", "person"), THROW])
        self.assertEqual(owns(run), [0, 1, 2, 4])
        self.assertEqual(self.column(run, "people.home"), ["oslo", "rome", "oslo", "rome"])
        self.assertEqual(self.column(run, "people.far"), ["near", "away", "near", "away"])
        self.assertEqual(len(run_of([("join", "people", "person"), THROW], sides=None)), 0)

    def test_left(self):
        run = run_of([("left", "people", "person"), THROW])
        self.assertEqual(owns(run), [0, 1, 2, 3, 4])
        self.assertEqual(self.column(run, "people.home"), ["oslo", "rome", "oslo", None, "rome"])
        self.assertEqual(self.column(run, "people.far"), ["near", "away", "near", None, "away"])

    def test_joined_by_a_column_of_a_side(self):
        run = run_of([("left", "people", "person"), ("left", "homes", "people.home"), THROW])
        self.assertEqual(self.column(run, "homes.owner"), [None, "ann", None, None, "ann"])
        run = run_of([("left", "people", "person"), ("join", "homes", "people.home"), THROW])
        self.assertEqual(owns(run), [1, 4])
        run = run_of([("left", "people", "person"), ("keep", ("not", ("has", "people"))),
                      ("left", "homes", "people.home"), THROW])
        self.assertEqual((owns(run), self.column(run, "homes.owner")), ([3], [None]))

    def test_fan(self):
        run = run_of([("fan", "visits", "person"), THROW])
        self.assertEqual(owns(run), [0, 0, 0, 1, 2, 2, 2, 4])
        self.assertEqual(self.column(run, "visits.place"), ["sea", "lake", "sea", "hill", "sea", "lake", "sea", "hill"])
        self.assertEqual(self.column(run, "visits.long"), ["yes", "no", "no", "no", "yes", "no", "no", "no"])
        run = run_of([("left", "people", "person"), ("left", "homes", "people.home"), ("fan", "visits", "homes.owner"), THROW])
        self.assertEqual(owns(run), [1, 1, 1, 4, 4, 4])

    def test_twice(self):
        self.assertEqual(owns(run_of([("twice", 2), THROW], ROWS[:2])), [0, 0, 1, 1])
        self.assertEqual(owns(run_of([("twice", 3), ("twice", 2), THROW], ROWS[:2])), [0] * 6 + [1] * 6)
        run = run_of([("twice", 2), ("fan", "visits", "person"), THROW], ROWS[:2])
        self.assertEqual(self.column(run, "visits.place"), ["sea", "lake", "sea"] * 2 + ["hill"] * 2)
        run = run_of([("fan", "visits", "person"), ("twice", 2), THROW], ROWS[:2])
        self.assertEqual(self.column(run, "visits.place"), ["sea", "sea", "lake", "lake", "sea", "sea", "hill", "hill"])

    def test_sort(self):
        self.assertEqual(owns(run_of([("sort", "day"), THROW])), [1, 3, 2, 0, 4])
        self.assertEqual(owns(run_of([("sort", "hour"), THROW])), [0, 2, 3, 1, 4])
        self.assertEqual(owns(run_of([("sort", "hour"), ("sort", "day"), THROW])), [3, 1, 2, 0, 4])
        self.assertEqual(owns(run_of([("sort", "day"), ("sort", "hour"), THROW])), [3, 2, 0, 1, 4])
        rows = [("ann", 5, 0, "cat"), ("ann", -5, 0, "cat"), ("ann", 0, 0, "cat")]
        self.assertEqual(owns(run_of([("sort", "day"), THROW], rows)), [1, 2, 0])

    def test_once(self):
        self.assertEqual(owns(run_of([("once", ("person",)), THROW])), [0, 1, 3])
        self.assertEqual(owns(run_of([("once", ("day", "kind")), THROW])), [0, 1, 2, 3])
        self.assertEqual(owns(run_of([("sort", "day"), ("once", ("person",)), THROW])), [1, 3, 2])
        rows = ROWS + [("cid", 9, 9, "dog"), ("dot", 1, 1, "dog")]
        # None equals None.
        self.assertEqual(owns(run_of([("left", "people", "person"), ("once", ("hour", "people.home")), THROW], rows)),
                         [0, 1, 3, 5])
        self.assertEqual(owns(run_of([("left", "people", "person"), ("once", ("day", "people.home")), THROW], rows)),
                         [0, 1, 2, 3, 4, 5])


class HangingTest(unittest.TestCase):
    def test_own_row(self):
        run = run_of([("twice", 2), THROW], ROWS[:2])
        self.assertEqual([run.hangs_on(number, "pulse") for number in range(4)], [[0], [0], [1], [1]])

    def test_near(self):
        self.assertEqual(hung(run_of([("near", "pulse", "last", ("person",)), THROW])),
                         [(0, []), (1, []), (2, [0]), (3, []), (4, [1])])
        self.assertEqual(hung(run_of([("near", "pulse", "next", ("person",)), THROW])),
                         [(0, [2]), (1, [4]), (2, []), (3, []), (4, [])])
        self.assertEqual(hung(run_of([("near", "pulse", "last", ()), THROW])),
                         [(0, []), (1, [0]), (2, [1]), (3, [2]), (4, [3])])
        self.assertEqual(hung(run_of([("near", "pulse", "next", ("kind", "hour")), THROW])),
                         [(0, [3]), (1, []), (2, []), (3, []), (4, [])])

    def test_near_in_the_order_of_the_rows(self):
        sort = ("sort", "day")
        self.assertEqual(hung(run_of([sort, ("near", "pulse", "last", ("person",)), THROW])),
                         [(1, []), (3, []), (2, []), (0, [2]), (4, [1])])
        self.assertEqual(hung(run_of([("near", "pulse", "last", ("person",)), sort, THROW])),
                         [(1, []), (3, []), (2, [0]), (0, []), (4, [1])])

    def test_ahead_of_the_step_counts(self):
        # Each row has what its neighbour hung on ahead of the step, not what it gets by the step.
        rows = [("ann", day, 0, "cat") for day in range(4)]
        last = ("near", "pulse", "last", ())
        following = ("near", "pulse", "next", ())
        self.assertEqual(hung(run_of([last, THROW], rows)), [(0, []), (1, [0]), (2, [1]), (3, [2])])
        self.assertEqual(hung(run_of([last, last, THROW], rows)), [(0, []), (1, [0]), (2, [0, 1]), (3, [1, 2])])
        self.assertEqual(hung(run_of([last, following, THROW], rows)), [(0, [1]), (1, [0, 2]), (2, [1, 3]), (3, [2])])

    def test_all(self):
        self.assertEqual(hung(run_of([("all", "pulse", ("person",)), THROW])),
                         [(0, [2]), (1, [4]), (2, [0]), (3, []), (4, [1])])
        self.assertEqual(hung(run_of([("all", "pulse", ()), THROW], ROWS[:3])), [(0, [1, 2]), (1, [0, 2]), (2, [0, 1])])
        steps = [("near", "pulse", "last", ("person",)), ("all", "pulse", ("kind",)), THROW]
        self.assertEqual(hung(run_of(steps)),
                         [(0, [1, 3, 4]), (1, [0, 2]), (2, [0, 1]), (3, [0, 1, 4]), (4, [0, 1, 3])])

    def test_none_equals_none(self):
        rows = [("cid", 1, 1, "cat"), ("ann", 1, 1, "cat"), ("dot", 1, 1, "cat")]
        left = ("left", "people", "person")
        self.assertEqual(hung(run_of([left, ("near", "pulse", "last", ("people.home",)), THROW], rows)),
                         [(0, []), (1, []), (2, [0])])
        self.assertEqual(hung(run_of([left, ("all", "pulse", ("people.far",)), THROW], rows)),
                         [(0, [2]), (1, []), (2, [0])])

    def test_each_worth_by_itself(self):
        run = run_of([("near", "pulse", "last", ("person",)), ("all", "heat", ("kind",)), THROW])
        self.assertEqual(hung(run), [(0, []), (1, []), (2, [0]), (3, []), (4, [1])])
        self.assertEqual(hung(run, "heat"), [(0, [3, 4]), (1, [2]), (2, [1]), (3, [0, 4]), (4, [0, 3])])

    def test_dropped_rows_stay_in_what_hangs_on_them(self):
        run = run_of([("near", "pulse", "last", ("person",)), ("keep", ("is", "kind", "dog")), THROW])
        self.assertEqual(hung(run), [(1, []), (2, [0])])
        run = run_of([("keep", ("is", "kind", "dog")), ("near", "pulse", "last", ("person",)), THROW])
        self.assertEqual(hung(run), [(1, []), (2, [])])

    def test_copies(self):
        run = run_of([("near", "pulse", "last", ("person",)), ("fan", "visits", "person"), THROW], [ROWS[1], ROWS[4]])
        self.assertEqual(hung(run), [(0, []), (1, [0])])


class CutsTest(unittest.TestCase):
    L, J = "learn", "judge"

    def test_rounds(self):
        rows = ROWS + ROWS[:2]
        self.assertEqual(lots(run_of([("cut", "rounds", 3, (1,))], rows)), [self.L, self.J, self.L, self.L, self.J, self.L, self.L])
        self.assertEqual(lots(run_of([("cut", "rounds", 3, (0, 2))], rows)), [self.J, self.L, self.J] * 2 + [self.J])
        self.assertEqual(run_of([("sort", "day"), ("cut", "rounds", 2, (0,))]).at_cut(),
                         [(1, self.J), (3, self.L), (2, self.J), (0, self.L), (4, self.J)])
        self.assertEqual(lots(run_of([("twice", 2), ("cut", "rounds", 4, (3,))], ROWS[:2])), [self.L] * 3 + [self.J])

    def test_throw(self):
        self.assertEqual(lots(run_of([THROW], setting=Setting(throws=[0, 1, 1]))),
                         [self.L, self.J, self.J, self.L, self.L])
        self.assertEqual(run_of([("sort", "day"), THROW], setting=Setting(throws=[1])).at_cut()[:2],
                         [(1, self.J), (3, self.L)])
        self.assertEqual(lots(run_of([THROW])), [self.L] * 5)

    def test_mark(self):
        cut = ("cut", "mark", ("person", "kind"), 3, (1, 2))
        marks = {("ann", "cat"): 4, ("bob", "dog"): -1, ("ann", "dog"): -3, ("bob",): 1}
        self.assertEqual(lots(run_of([cut], setting=Setting(marks))), [self.J, self.J, self.L, self.L, self.L])
        zero = ("cut", "mark", ("person",), 2, (0,))
        self.assertEqual(lots(run_of([zero], setting=Setting({("ann",): 1}))), [self.L, self.J, self.L, self.J, self.J])
        left = ("left", "people", "person")
        home = ("cut", "mark", ("people.home",), 2, (1,))
        self.assertEqual(lots(run_of([left, home], setting=Setting({(None,): 1}))), [self.L, self.L, self.L, self.J, self.L])

    def test_before(self):
        self.assertEqual(lots(run_of([("cut", "before", "day", 3)])), [self.J, self.L, self.L, self.L, self.J])
        self.assertEqual(lots(run_of([("cut", "before", "day", 1)])), [self.J] * 5)
        self.assertEqual(lots(run_of([("cut", "before", "hour", 2)])), [self.L, self.J, self.L, self.L, self.J])

    def test_share(self):
        for many, a, b, learn in ((5, 1, 2, 2), (5, 4, 5, 4), (5, 1, 12, 0), (4, 1, 2, 2), (1, 11, 12, 0), (0, 1, 2, 0), (3, 2, 3, 2)):
            expected = [self.L] * learn + [self.J] * (many - learn)
            self.assertEqual(lots(run_of([("cut", "share", a, b)], ROWS[:many])), expected)
        self.assertEqual(lots(run_of([("twice", 3), ("cut", "share", 1, 2)], ROWS[:1])), [self.L, self.J, self.J])

    def test_groups(self):
        self.assertEqual(lots(run_of([("cut", "groups", ("person",), 2, (1,))])), [self.L, self.J, self.L, self.L, self.J])
        self.assertEqual(lots(run_of([("cut", "groups", ("person", "kind"), 3, (0,))])),
                         [self.J, self.L, self.L, self.J, self.L])
        self.assertEqual(run_of([("sort", "day"), ("cut", "groups", ("person",), 3, (2,))]).at_cut(),
                         [(1, self.L), (3, self.L), (2, self.J), (0, self.J), (4, self.L)])
        left = ("left", "people", "person")
        # None equals None here, too.
        rows = [("cid", 1, 1, "cat"), ("ann", 1, 1, "cat"), ("cid", 2, 1, "cat")]
        self.assertEqual(lots(run_of([left, ("cut", "groups", ("people.home", "person"), 2, (1,))], rows)),
                         [self.L, self.J, self.L])


class BehindTest(unittest.TestCase):
    """Steps behind the cut see the rows of one lot alone."""

    setting = Setting(throws=[0, 1, 0, 1, 0])

    def test_last_rows(self):
        run = run_of([THROW], setting=self.setting)
        self.assertEqual(run.at_cut(), [(0, "learn"), (1, "judge"), (2, "learn"), (3, "judge"), (4, "learn")])
        self.assertEqual(run.rows(), [(0, "learn"), (2, "learn"), (4, "learn"), (1, "judge"), (3, "judge")])

    def test_once(self):
        run = run_of([THROW, ("once", ("person",))], setting=Setting(throws=[0, 0, 1, 1, 0]))
        self.assertEqual(run.rows(), [(0, "learn"), (1, "learn"), (2, "judge"), (3, "judge")])
        self.assertEqual(len(run.at_cut()), 5)

    def test_twice(self):
        run = run_of([THROW, ("twice", 2)], setting=self.setting)
        self.assertEqual(owns(run), [0, 0, 2, 2, 4, 4, 1, 1, 3, 3])
        self.assertEqual(len(run.at_cut()), 5)

    def test_near_and_all(self):
        near = ("near", "pulse", "last", ())
        self.assertEqual(hung(run_of([THROW, near], setting=self.setting)), [(0, []), (2, [0]), (4, [2]), (1, []), (3, [1])])
        self.assertEqual(hung(run_of([near, THROW], setting=self.setting)), [(0, []), (2, [1]), (4, [3]), (1, [0]), (3, [2])])
        every = ("all", "pulse", ("person",))
        self.assertEqual(hung(run_of([THROW, every], setting=self.setting)), [(0, [2]), (2, [0]), (4, []), (1, []), (3, [])])
        # What a row hangs on when it comes to the cut comes with it.
        self.assertEqual(hung(run_of([near, THROW, every], setting=self.setting)),
                         [(0, [1, 2]), (2, [0, 1]), (4, [3]), (1, [0]), (3, [2])])

    def test_copies_behind_the_cut(self):
        run = run_of([THROW, ("twice", 2), ("near", "pulse", "last", ())], ROWS[:2])
        self.assertEqual([run.hangs_on(number, "pulse") for number in range(4)], [[0], [0], [0, 1], [1]])


class ToldTest(unittest.TestCase):
    steps = [("left", "people", "person"), ("near", "pulse", "last", ("people.home",)), THROW, ("once", ("person", "day"))]

    def setUp(self):
        self.run_ = run_of(self.steps, ROWS + [("ann", 3, 7, "dog"), ("dot", 0, 0, "cat")],
                           Setting(throws=[0, 1, 1, 0, 1, 0, 1]))

    def test_rows(self):
        self.assertEqual(self.run_.rows(), [(0, "learn"), (3, "learn"), (1, "judge"), (2, "judge"), (4, "judge"), (6, "judge")])
        self.assertEqual(len(self.run_), 6)
        self.assertEqual(repr(self.run_), "Run(2 learn, 4 judge)")
        self.assertEqual(repr(run_of([THROW], [])), "Run(0 learn, 0 judge)")
        self.assertEqual(self.run_.basis, Program(MAIN, self.steps, sides=SIDES))

    def test_lots(self):
        run = run_of([("twice", 2), THROW, ("once", ("person",))], setting=Setting(throws=[0, 1, 0, 0, 1, 1, 0, 1]))
        self.assertEqual([run.lots(own) for own in range(5)], [["judge", "learn"], ["learn"], [], ["judge", "learn"], []])
        self.assertEqual([run.lots(own, ended=False) for own in range(5)],
                         [["judge", "learn"], ["learn"], ["judge"], ["judge", "learn"], ["learn"]])
        kept = run_of([("keep", ("is", "kind", "dog")), THROW])
        self.assertEqual([kept.lots(own) for own in range(5)], [[], ["learn"], ["learn"], [], []])
        self.assertEqual(kept.lots(0, ended=False), [])

    def test_values(self):
        self.assertEqual([self.run_.value(number, "person") for number in range(6)], ["ann", "cid", "bob", "ann", "bob", "dot"])
        self.assertEqual([self.run_.value(number, "day") for number in range(6)], [3, 1, 1, 2, 3, 0])
        self.assertEqual([self.run_.value(number, "people.far") for number in range(6)],
                         ["near", None, "away", "near", "away", None])
        self.assertEqual(self.run_.value(1, "people.home"), None)

    def test_unknown_rows(self):
        for number in (-1, 6, 7, True, False, None, "0", (0,), [0]):
            for ask in (lambda: self.run_.value(number, "person"), lambda: self.run_.value(number, "other"),
                        lambda: self.run_.hangs_on(number, "pulse"), lambda: self.run_.hangs_on(number, "other")):
                with self.subTest(number=number), self.assertRaises(UnknownRow) as caught:
                    ask()
                self.assertEqual(caught.exception.number, number)
        for own in (-1, 7, True, None, "0", (0,), [0]):
            for ended in (True, False):
                with self.subTest(own=own), self.assertRaises(UnknownRow) as caught:
                    self.run_.lots(own, ended=ended)
                self.assertEqual(caught.exception.number, own)

    def test_unknown_columns(self):
        for column in ("pulse", "heat", "own", "people", "homes.owner", "", None, 1, True, ("person",), ["person"], []):
            with self.subTest(column=column), self.assertRaises(UnknownColumn) as caught:
                self.run_.value(0, column)
            self.assertEqual(caught.exception.name, column)
        for worth in ("person", "day", "own", "", None, 1, True, ("pulse",), ["pulse"], []):
            for ask in (lambda: self.run_.hangs_on(0, worth), lambda: self.run_.leak(worth, "learn"),
                        lambda: self.run_.leak(worth, "none")):
                with self.subTest(worth=worth), self.assertRaises(UnknownColumn) as caught:
                    ask()
                self.assertEqual(caught.exception.name, worth)

    def test_lists_are_new(self):
        for ask in (self.run_.rows, self.run_.at_cut, lambda: self.run_.lots(0), lambda: self.run_.hangs_on(3, "pulse")):
            first = ask()
            ask().append(5)
            ask().clear()
            self.assertEqual(ask(), first)

    def test_other_program(self):
        program = Program(MAIN, [THROW], sides=SIDES)
        others = (Program(MAIN, [("cut", "throw"), ("twice", 2)], sides=SIDES), Program(MAIN, [THROW]),
                  Program(MAIN[::-1], [THROW], sides=SIDES), Program(MAIN, [THROW], sides=SIDES, unique=("person",)))
        for other in others:
            with self.assertRaises(OtherProgram):
                Run(program, Tables(other, []))
        equal = Program(MAIN, [THROW], sides=SIDES)
        self.assertEqual(len(Run(program, Tables(equal, ROWS))), 5)
        self.assertEqual(len(Run(program, Tables(equal, ROWS), setting=None)), 5)


class AlikeTest(unittest.TestCase):
    steps = [("left", "people", "person"), ("fan", "visits", "people.home"), THROW]
    sides = {"people": GIVEN["people"], "visits": [("oslo", "sea", "yes"), ("rome", "sea", "no"), ("rome", "hill", "no")]}

    def test_alike(self):
        run = run_of([THROW], setting=Setting(throws=[0, 0, 1, 0, 1]))
        self.assertEqual(run.rows(), [(0, "learn"), (1, "learn"), (3, "learn"), (2, "judge"), (4, "judge")])
        self.assertEqual(run.alike(("person",)), (0, 3))
        run = run_of([THROW], setting=Setting(throws=[1, 0, 1, 0, 1]))
        self.assertEqual(run.alike(("person",)), (0, 4))
        run = run_of([THROW], setting=Setting(throws=[1, 1, 1, 0, 1]))
        self.assertEqual(run.alike(("person",)), None)
        self.assertEqual(run_of([THROW]).alike(("person",)), None)

    def test_least_pair(self):
        rows = [("bob", 1, 1, "cat"), ("ann", 1, 1, "cat"), ("ann", 2, 1, "cat"), ("bob", 3, 1, "cat"), ("ann", 4, 1, "cat"),
                ("bob", 5, 1, "cat")]
        run = run_of([THROW], rows, Setting(throws=[0, 0, 1, 1, 1, 1]))
        self.assertEqual(run.alike(("person",)), (0, 3))
        run = run_of([THROW], rows, Setting(throws=[1, 0, 1, 1, 1, 1]))
        self.assertEqual(run.alike(("person",)), (0, 2))

    def test_fan_and_several_columns(self):
        # The rows at the cut are (0 sea), (1 sea), (1 hill), (2 sea), (4 sea), (4 hill).
        run = run_of(self.steps, setting=Setting(throws=[0, 0, 1, 1, 0, 0]), sides=self.sides)
        self.assertEqual(run.rows(), [(0, "learn"), (1, "learn"), (4, "learn"), (4, "learn"), (1, "judge"), (2, "judge")])
        self.assertEqual(run.alike(("visits.place",)), (0, 5))
        self.assertEqual(run.alike(("people.home", "visits.place")), (0, 5))
        self.assertEqual(run.alike(("person",)), (0, 5))
        run = run_of(self.steps, setting=Setting(throws=[0, 0, 1, 0, 0, 0]), sides=self.sides)
        self.assertEqual(run.alike(("person", "visits.place")), (4, 5))
        self.assertEqual(run.alike(("visits.place", "person", "people.home")), (4, 5))
        self.assertEqual(run.alike(("person",)), (1, 5))

    def test_none_is_not_alike(self):
        rows = [("cid", 1, 1, "cat"), ("dot", 1, 1, "cat"), ("cid", 2, 2, "cat")]
        left = ("left", "people", "person")
        run = run_of([left, THROW], rows, Setting(throws=[0, 1, 1]))
        self.assertEqual(run.alike(("people.home",)), None)
        self.assertEqual(run.alike(("person", "people.home")), None)
        self.assertEqual(run.alike(("person",)), (0, 2))

    def test_only_last_rows_count(self):
        rows = [("ann", 1, 1, "cat"), ("ann", 1, 2, "cat"), ("bob", 1, 2, "cat")]
        run = run_of([THROW, ("once", ("day",))], rows, Setting(throws=[0, 0, 1]))
        self.assertEqual((owns(run), run.alike(("person",))), ([0, 2], None))

    def test_invalid_things(self):
        run = run_of(self.steps, sides=self.sides)
        for thing in ((), ("person", "person"), ("kind",), ("day",), ("pulse",), ("own",), ("people.far",), ("homes.owner",),
                      ("person", "day"), ["person"], "person", None, True, 1, (1,), (None,), (("person",),), (["person"],),
                      ("person", "people.home", "visits.place", "person"), ("people",), [], ("person", [])):
            with self.subTest(thing=thing), self.assertRaises(InvalidThing) as caught:
                run.alike(thing)
            self.assertEqual(caught.exception.given, thing)


class LeakTest(unittest.TestCase):
    def test_leak(self):
        near = ("near", "pulse", "last", ())
        run = run_of([near, THROW], setting=Setting(throws=[0, 0, 1, 1, 0]))
        self.assertEqual(hung(run), [(0, []), (1, [0]), (4, [3]), (2, [1]), (3, [2])])
        self.assertEqual(run.leak("pulse", "learn"), (2, 3))
        self.assertEqual(run.leak("pulse", "judge"), (3, 1))
        self.assertEqual(run.leak("heat", "learn"), None)
        self.assertEqual(run_of([near, THROW]).leak("pulse", "learn"), None)

    def test_least_pair(self):
        run = run_of([("all", "pulse", ()), THROW], setting=Setting(throws=[1, 0, 1, 1, 0]))
        self.assertEqual(run.leak("pulse", "learn"), (0, 0))
        self.assertEqual(run.leak("pulse", "judge"), (2, 1))

    def test_by_copies(self):
        run = run_of([("twice", 2), THROW], ROWS[:2], Setting(throws=[0, 0, 0, 1]))
        self.assertEqual((run.leak("pulse", "learn"), run.leak("heat", "judge")), ((2, 1), (3, 1)))

    def test_only_last_rows_count(self):
        near = ("near", "pulse", "last", ())
        rows = [("ann", 1, 1, "cat"), ("ann", 1, 2, "cat"), ("bob", 1, 2, "cat")]
        run = run_of([near, THROW, ("once", ("person",))], rows, Setting(throws=[0, 0, 1]))
        self.assertEqual((owns(run), run.leak("pulse", "judge")), ([0, 2], None))
        run = run_of([near, THROW], rows, Setting(throws=[0, 0, 1]))
        self.assertEqual(run.leak("pulse", "judge"), (2, 1))

    def test_wrong_lots(self):
        run = run_of([THROW])
        for lot in ("both", "", "Learn", None, True, 0, ("learn",), ["learn"], []):
            with self.subTest(lot=lot), self.assertRaises(InvalidWord) as caught:
                run.leak("pulse", lot)
            self.assertEqual(caught.exception.given, lot)


if __name__ == "__main__":
    unittest.main()
