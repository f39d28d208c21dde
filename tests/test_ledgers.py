"""Ledgers: rows dealt to the lots, rows that hang together, undo and redo."""

import itertools
import random
import types
import unittest

import naive
from bothlots.errors import (Full, InvalidRow, InvalidThing, InvalidWord, NothingLeft, SideTaken, TooMany, Torn, UnknownRow)
from bothlots.ledgers import Ledger

LOTS = ("learn", "judge")
ODD = (None, True, False, 0, 7, -1, "", "Learn", "learn ", "both", (), [], (1,), ["learn"], ("learn",), [[], (1, [2])])
ODD_NUMBERS = (None, True, False, -1, 99, 10 ** 14, "", "0", (), [], (0,), [0])
ODD_ROWS = (None, True, 0, 7, "", "a", (), [], [("a", "b")], ("a", "b"), {"a": 1}, {"a": None}, {"a": ["b"]}, {"A": "b"},
            {"a": "B"}, {"a": ""}, {"": "a"}, {"a.b": "c"}, {"a": "b", 1: "c"}, {"a": "b", None: "c"}, {True: "b"},
            {("a",): "b"}, {"a": "b", "c": True}, {"toolong": "a"}, {"a": "toolong"}, {"a": "b", "c": ("d",)})


def alike(row, other, things):
    return any(all(row.get(field) == other.get(field) is not None for field in thing) for thing in things)


def state(ledger):
    """All that a ledger tells."""
    numbers = range(len(ledger))
    return (ledger.things(), [ledger.row(number) for number in numbers], [ledger.side(number) for number in numbers],
            [list(ledger.walk(lot)) for lot in LOTS], [ledger.tally(lot) for lot in LOTS], ledger.history(), repr(ledger))


class ThingsTest(unittest.TestCase):
    def test_things(self):
        for things in ([("a",)], [("a", "b"), ("b",)], [("a",), ("b",), ("c",), ("d", "e", "f")], [("a",), ("a",)],
                       [("own",)], [("abcdef", "name", "tick")]):
            ledger = Ledger(*things)
            self.assertEqual((ledger.things(), len(ledger), ledger.history()), (things, 0, (0, 0)))
            ledger.things().clear()
            self.assertEqual(ledger.things(), things)

    def test_wrong_things(self):
        wrong = (None, True, 7, "", "a", (), [], ["a"], [("a",)], ("a", "a"), ("a", "b", "c", "d"), ("A",), ("",), ("a.b",),
                 ("toolong",), (1,), (None,), (True,), ("a", ["b"]), (("a",),), ("a", "b", "a"))
        for value in wrong:
            for things in ((value,), (("a",), value), (value, None), (("a",), ("b",), ("c",), ("d",), value, 7)):
                with self.subTest(things=things), self.assertRaises(InvalidThing) as caught:
                    Ledger(*things)
                self.assertEqual((caught.exception.given, caught.exception.code), (value, "InvalidThing"))

    def test_too_many_and_none(self):
        for many in (5, 6, 20):
            with self.assertRaises(TooMany) as caught:
                Ledger(*[("a",)] * many)
            self.assertEqual((caught.exception.most, caught.exception.code), (4, "TooMany"))
        with self.assertRaises(InvalidThing) as caught:
            Ledger()
        self.assertIsNone(caught.exception.given)

    def test_most(self):
        self.assertEqual((Ledger.MOST, Ledger(("a",)).MOST), (200, 200))


class AddTest(unittest.TestCase):
    def test_lot_with_fewer_rows(self):
        ledger = Ledger(("a",))
        self.assertEqual([ledger.add({"a": name}) for name in "bcdefg"], [*LOTS] * 3)
        self.assertEqual(ledger.add({"a": "h"}, side="judge"), "judge")
        self.assertEqual([ledger.add({"a": name}) for name in "ijk"], ["learn", "learn", "judge"])
        self.assertEqual([ledger.add({"a": "b"}) for _ in range(3)], ["learn"] * 3)
        self.assertEqual([ledger.add({}) for _ in range(4)], ["judge", "judge", "judge", "learn"])

    def test_offers(self):
        ledger = Ledger(("a",), ("b", "c"))
        self.assertIsNone(ledger.offer({"a": "x"}))
        ledger.add({"a": "x", "b": "y"})
        ledger.add({"b": "y", "c": "z"})
        for row, side in (({"a": "x"}, "learn"), ({"b": "y"}, None), ({"c": "z"}, None), ({}, None), ({"c": "z", "b": "y"}, "judge"),
                          ({"a": "y", "b": "x", "c": "z"}, None), ({"a": "x", "b": "y", "c": "x"}, "learn"), ({"d": "x"}, None),
                          ({"a": "q", "b": "y", "c": "z", "d": "x"}, "judge"), ({"b": "z", "c": "y"}, None)):
            with self.subTest(row=row):
                self.assertEqual(ledger.offer(row), side)
        self.assertEqual(ledger.history(), (2, 0))

    def test_given_sides(self):
        for side in LOTS:
            ledger = Ledger(("a",))
            self.assertEqual([ledger.add({"a": name}, side=side) for name in "bbcd"], [side] * 4)
            self.assertEqual(ledger.add({"a": "b"}), side)
            self.assertEqual([ledger.side(number) for number in range(5)], [side] * 5)

    def test_side_taken(self):
        for side, other in (LOTS, LOTS[::-1]):
            ledger = Ledger(("a",), ("b",))
            ledger.add({"a": "x", "b": "y"}, side=side)
            for row in ({"a": "x"}, {"b": "y"}, {"a": "x", "b": "z"}, {"a": "x", "b": "y"}):
                before = state(ledger)
                with self.assertRaises(SideTaken) as caught:
                    ledger.add(row, side=other)
                self.assertEqual((caught.exception.taken, caught.exception.code), (side, "SideTaken"))
                self.assertEqual(state(ledger), before)
            self.assertEqual(ledger.add({"a": "x"}, side=side), side)

    def test_torn(self):
        """The least row in learn and the least one in judge, whichever came first."""
        ledger = Ledger(("a",), ("b",))
        for row, side in (({"a": "p"}, "judge"), ({"b": "q"}, "judge"), ({"b": "r"}, "learn"), ({"b": "q"}, "judge"),
                          ({"a": "s", "b": "r"}, "learn"), ({"a": "p"}, "judge"), ({"a": "s"}, "learn")):
            ledger.add(row, side=side)
        for row, numbers in (({"a": "p", "b": "r"}, (2, 0)), ({"a": "s", "b": "q"}, (4, 1))):
            for side in (None, *LOTS):
                before = state(ledger)
                with self.assertRaises(Torn) as caught:
                    ledger.add(row, side=side)
                self.assertEqual((caught.exception.one, caught.exception.other, caught.exception.code), (*numbers, "Torn"))
                with self.assertRaises(Torn) as caught:
                    ledger.offer(row)
                self.assertEqual((caught.exception.one, caught.exception.other), numbers)
                self.assertEqual(state(ledger), before)

    def test_alike_by_all_fields(self):
        ledger = Ledger(("a", "b", "c"))
        ledger.add({"a": "x", "b": "y", "c": "z"})
        for lacking in "abc":
            row = {"a": "x", "b": "y", "c": "z"}
            del row[lacking]
            self.assertIsNone(ledger.offer(row))
            self.assertIsNone(ledger.offer({**row, lacking: "q"}))
        self.assertEqual(ledger.offer({"c": "z", "b": "y", "a": "x", "d": "q"}), "learn")

    def test_things_of_the_same_fields(self):
        """Values of one thing are never those of another one."""
        ledger = Ledger(("a", "b"), ("b", "a"), ("c",), ("d",))
        ledger.add({"a": "x", "b": "y", "c": "z"})
        self.assertIsNone(ledger.offer({"a": "y", "b": "x", "d": "z"}))
        self.assertEqual(ledger.offer({"a": "x", "b": "y"}), "learn")

    def test_wrong_rows(self):
        ledger = Ledger(("a",))
        for many in range(3):
            for row in ODD_ROWS:
                before = state(ledger)
                for call in (ledger.offer, ledger.add, lambda given: ledger.add(given, side="judge")):
                    with self.subTest(row=row), self.assertRaises(InvalidRow) as caught:
                        call(row)
                    error = caught.exception
                    self.assertEqual((error.table, error.at, error.code), ("", many, "InvalidRow"))
                self.assertEqual(state(ledger), before)
            ledger.add({})

    def test_wrong_sides(self):
        """A wrong side goes ahead of a full ledger, and both go ahead of a wrong row."""
        ledger = Ledger(("a",))
        for _ in range(2):
            for side in ODD[1:]:
                for row in ({"a": "b"}, 7, {"A": 1}):
                    with self.subTest(side=side), self.assertRaises(InvalidWord) as caught:
                        ledger.add(row, side=side)
                    self.assertEqual((caught.exception.given, caught.exception.code), (side, "InvalidWord"))
            while len(ledger) < 200:
                ledger.add({"a": "b"})

    def test_full(self):
        ledger = Ledger(("a",), ("b",))
        for number in range(200):
            ledger.add({"a": "xyz"[number % 3]})
        self.assertEqual(len(ledger), 200)
        for row in ({}, {"a": "x"}, 7, {"a": "x", "b": "q"}):
            for side in (None, *LOTS):
                with self.assertRaises(Full) as caught:
                    ledger.add(row, side=side)
                self.assertEqual((caught.exception.most, caught.exception.code), (200, "Full"))
        self.assertEqual(ledger.offer({"a": "y"}), "judge")
        self.assertEqual((ledger.group(7), ledger.history()), (list(range(1, 200, 3)), (200, 0)))
        ledger.undo()
        ledger.add({"b": "q"})
        with self.assertRaises(Full):
            ledger.add({})

    def test_errors_in_order(self):
        ledger = Ledger(("a",), ("b",))
        ledger.add({"a": "x"}, side="learn")
        ledger.add({"b": "y"}, side="judge")
        with self.assertRaises(Torn):
            ledger.add({"a": "x", "b": "y"}, side="learn")
        with self.assertRaises(InvalidRow):
            ledger.add({"a": "x", "b": 1}, side="judge")

    def test_rows_are_copied(self):
        ledger = Ledger(("a",))
        row = {"a": "x", "b": "y"}
        ledger.add(row)
        row["a"] = "z"
        ledger.row(0)["a"] = "q"
        self.assertEqual((ledger.row(0), ledger.offer({"a": "x"})), ({"a": "x", "b": "y"}, "learn"))
        self.assertEqual(row, {"a": "z", "b": "y"})
        ledger.undo()
        ledger.redo()
        ledger.twin().row(0).clear()
        self.assertEqual(ledger.row(0), {"a": "x", "b": "y"})


class HangTest(unittest.TestCase):
    def test_groups(self):
        ledger = Ledger(("person",), ("day", "room"))
        for row in ({"person": "ann"}, {"day": "mon", "room": "red"}, {"person": "ann", "day": "tue", "room": "red"}, {},
                    {"day": "mon"}, {"room": "red", "day": "tue"}, {}, {"person": "bob", "room": "red", "day": "mon"}, {"person": "bob"}):
            ledger.add(row)
        groups = [[0, 2, 5], [1, 7, 8], [0, 2, 5], [3], [4], [0, 2, 5], [6], [1, 7, 8], [1, 7, 8]]
        self.assertEqual([ledger.group(number) for number in range(9)], groups)
        self.assertEqual(ledger.chain(0, 5), [0, 2, 5])
        self.assertEqual(ledger.chain(8, 1), [8, 7, 1])
        self.assertEqual([ledger.chain(number, number) for number in range(9)], [[number] for number in range(9)])
        self.assertIsNone(ledger.chain(3, 6))
        self.assertIsNone(ledger.chain(0, 1))
        ledger.group(0).clear()
        ledger.chain(0, 5).clear()
        self.assertEqual((ledger.group(0), ledger.chain(0, 5)), ([0, 2, 5], [0, 2, 5]))

    def test_equal_rows(self):
        ledger = Ledger(("a",))
        for _ in range(4):
            ledger.add({"a": "x"})
        self.assertEqual((ledger.group(3), ledger.chain(3, 0), ledger.tally("learn")), ([0, 1, 2, 3], [3, 0], 4))
        other = Ledger(("a",))
        for _ in range(4):
            other.add({"b": "x"})
        self.assertEqual((other.group(3), other.chain(3, 0), other.tally("learn")), ([3], None, 2))

    def test_of_several_shortest_the_least_one(self):
        ledger = Ledger(("a",), ("b",), ("c",))
        for row in ("xyp", "zrq", "xsq", "xtq", "qsg", "qtg"):
            ledger.add(dict(zip("abc", row)), side="learn")
        self.assertEqual(ledger.chain(0, 1), [0, 2, 1])
        self.assertEqual(ledger.chain(1, 0), [1, 2, 0])
        self.assertEqual(ledger.chain(0, 4), [0, 2, 4])
        self.assertEqual(ledger.chain(0, 5), [0, 3, 5])

    def test_by_chance(self):
        """All chains and groups are tried out, and rows that hang together are always in one lot."""
        chance = random.Random(4)
        fields = "abcd"
        lengths = set()
        for _ in range(40):
            things = [tuple(chance.sample(fields, chance.randint(1, 2))) for _ in range(chance.randint(1, 4))]
            ledger = Ledger(*things)
            rows, sides = [], []
            for _ in range(12):
                row = {field: chance.choice("pqrst") for field in fields if chance.random() < 0.6}
                near = [number for number, elder in enumerate(rows) if alike(row, elder, things)]
                taken = {sides[number] for number in near}
                if len(taken) == 2:
                    with self.assertRaises(Torn) as caught:
                        ledger.add(row)
                    pair = tuple(min(number for number in near if sides[number] == lot) for lot in LOTS)
                    self.assertEqual((caught.exception.one, caught.exception.other), pair)
                    continue
                expected = taken.pop() if taken else "learn" if sides.count("learn") <= sides.count("judge") else "judge"
                self.assertEqual(ledger.add(row), expected)
                rows.append(row)
                sides.append(expected)
            numbers = range(len(rows))
            linked = lambda one, other: alike(rows[one], rows[other], things)
            groups = naive.groups(numbers, linked)
            for group in groups:
                self.assertEqual([ledger.group(number) for number in group], [group] * len(group))
                self.assertEqual(len({ledger.side(number) for number in group}), 1)
            for one, other in itertools.product(numbers, repeat=2):
                found = ledger.chain(one, other)
                self.assertEqual(found, naive.chain(numbers, linked, one, other))
                lengths.add(len(found or []))
        self.assertTrue({0, 1, 2, 3, 4} <= lengths)

    def test_unknown_rows(self):
        ledger = Ledger(("a",))
        for many in range(3):
            for number in (*ODD_NUMBERS, many):
                for call in (ledger.row, ledger.side, ledger.group, lambda given: ledger[given], lambda given: ledger.chain(given, 0),
                             lambda given: ledger.chain(given, given), lambda given: ledger.chain(given, 77)):
                    with self.subTest(number=number), self.assertRaises(UnknownRow) as caught:
                        call(number)
                    self.assertEqual((caught.exception.number, caught.exception.code), (number, "UnknownRow"))
                if many > 0:
                    with self.assertRaises(UnknownRow) as caught:
                        ledger.chain(0, number)
                    self.assertEqual(caught.exception.number, number)
            ledger.add({"a": "b"})


class LotsTest(unittest.TestCase):
    def ledger(self):
        ledger = Ledger(("a",))
        for side in ("judge", "learn", "learn", "judge", "learn"):
            ledger.add({}, side=side)
        return ledger

    def test_tally_and_walk(self):
        ledger = self.ledger()
        self.assertEqual([ledger.tally(lot) for lot in LOTS], [3, 2])
        self.assertEqual([list(ledger.walk(lot)) for lot in LOTS], [[1, 2, 4], [0, 3]])
        self.assertIsInstance(ledger.walk("learn"), types.GeneratorType)
        empty = Ledger(("a",))
        self.assertEqual([(empty.tally(lot), list(empty.walk(lot))) for lot in LOTS], [(0, [])] * 2)

    def test_two_walks_at_once(self):
        ledger = self.ledger()
        one, other = ledger.walk("learn"), ledger.walk("learn")
        self.assertEqual([next(one), next(one), next(other), next(one), next(other), next(other)], [1, 2, 1, 4, 2, 4])
        self.assertEqual(list(zip(ledger.walk("learn"), ledger.walk("judge"))), [(1, 0), (2, 3)])

    def test_wrong_lots(self):
        """A walk raises its error when its first item is asked for."""
        ledger = self.ledger()
        for lot in (*ODD, "learns", LOTS):
            with self.subTest(lot=lot):
                with self.assertRaises(InvalidWord) as caught:
                    ledger.tally(lot)
                self.assertEqual(caught.exception.given, lot)
                walk = ledger.walk(lot)
                with self.assertRaises(InvalidWord) as caught:
                    next(walk)
                self.assertEqual((caught.exception.given, caught.exception.code), (lot, "InvalidWord"))

    def test_as_a_value(self):
        ledger = self.ledger()
        self.assertEqual([ledger[number] for number in range(5)], ["judge", "learn", "learn", "judge", "learn"])
        self.assertEqual((len(ledger), repr(ledger), repr(Ledger(("a",)))), (5, "Ledger(3 learn, 2 judge)", "Ledger(0 learn, 0 judge)"))
        with self.assertRaises(TypeError):
            list(ledger)


class UndoTest(unittest.TestCase):
    def test_to_the_ends(self):
        ledger = Ledger(("a",))
        states = [state(ledger)[:-2]]
        for name in "bcbdb":
            ledger.add({"a": name})
            states.append(state(ledger)[:-2])
        for many in range(5, 0, -1):
            self.assertEqual(ledger.history(), (many, 5 - many))
            self.assertEqual(state(ledger)[:-2], states[many])
            self.assertIsNone(ledger.undo())
        for _ in range(2):
            with self.assertRaises(NothingLeft) as caught:
                ledger.undo()
            self.assertEqual((caught.exception.code, ledger.history()), ("NothingLeft", (0, 5)))
        for many in range(5):
            self.assertEqual(state(ledger)[:-2], states[many])
            self.assertIsNone(ledger.redo())
        with self.assertRaises(NothingLeft):
            ledger.redo()
        self.assertEqual((state(ledger)[:-2], ledger.history()), (states[5], (5, 0)))

    def test_an_add_ends_redo(self):
        ledger = Ledger(("a",))
        for name in "bcd":
            ledger.add({"a": name})
        ledger.undo()
        ledger.undo()
        with self.assertRaises(InvalidRow):
            ledger.add(7)
        with self.assertRaises(SideTaken):
            ledger.add({"a": "b"}, side="judge")
        self.assertEqual(ledger.history(), (1, 2))
        ledger.add({"a": "e"})
        self.assertEqual(ledger.history(), (2, 0))
        with self.assertRaises(NothingLeft):
            ledger.redo()
        self.assertEqual([ledger.row(number) for number in range(2)], [{"a": "b"}, {"a": "e"}])

    def test_the_given_side_is_made_again(self):
        ledger = Ledger(("a",))
        ledger.add({}, side="judge")
        ledger.add({}, side="judge")
        ledger.undo()
        ledger.undo()
        ledger.redo()
        ledger.redo()
        self.assertEqual([ledger[0], ledger[1]], ["judge", "judge"])

    def test_a_row_is_free_again(self):
        ledger = Ledger(("a",))
        ledger.add({"a": "b"}, side="judge")
        ledger.undo()
        self.assertIsNone(ledger.offer({"a": "b"}))
        ledger.redo()
        self.assertEqual(ledger.offer({"a": "b"}), "judge")

    def test_twins(self):
        ledger = Ledger(("a",), ("b", "c"))
        for name in "def":
            ledger.add({"a": name})
        ledger.undo()
        twin = ledger.twin()
        self.assertEqual((type(twin), state(twin)), (Ledger, state(ledger)))
        before = state(ledger)
        twin.undo()
        twin.undo()
        self.assertEqual((state(ledger), twin.history()), (before, (0, 3)))
        twin.add({"a": "g"}, side="judge")
        self.assertEqual(state(ledger), before)
        ledger.redo()
        self.assertEqual((len(ledger), len(twin), twin.history(), ledger.history()), (3, 1, (1, 0), (3, 0)))
        twin = ledger.twin()
        ledger.add({"a": "h"})
        self.assertEqual((len(ledger), len(twin)), (4, 3))
        for number in range(3):
            twin.undo()
        twin.redo()
        self.assertEqual(twin.row(0), {"a": "d"})


class EqualTest(unittest.TestCase):
    def made(self, things, *adds):
        ledger = Ledger(*things)
        for row, side in adds:
            ledger.add(row, side=side)
        return ledger

    def test_equal(self):
        one, other = ({"a": "b"}, "learn"), ({"c": "d", "a": "e"}, "judge")
        ledger = self.made([("a",), ("b",)], one, other)
        same = self.made([("a",), ("b",)], one, ({"a": "e", "c": "d"}, "judge"))
        self.assertTrue(ledger == same)
        self.assertFalse(ledger != same)
        same.add({})
        self.assertFalse(ledger == same)
        same.undo()
        self.assertTrue(ledger == same)
        for wrong in (self.made([("b",), ("a",)], one, other), self.made([("a",)], one, other), self.made([("a",), ("b",)], other, one),
                      self.made([("a",), ("b",)], one), self.made([("a",), ("b",)], one, (other[0], "learn")),
                      self.made([("a",), ("b",)], one, ({"a": "e"}, "judge")), Ledger(("a",), ("b",)),
                      *ODD, {}, [("a",), ("b",)], repr(ledger), Ledger):
            self.assertFalse(ledger == wrong)
            self.assertTrue(ledger != wrong)

    def test_twins_are_equal(self):
        ledger = self.made([("a",)], ({"a": "b"}, None), ({"a": "c"}, None))
        self.assertTrue(ledger == ledger.twin() and ledger.twin() == ledger)


if __name__ == "__main__":
    unittest.main()
