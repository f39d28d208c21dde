"""Shelves: commands, undo and redo, kept answers."""

import itertools
import unittest
import unittest.mock

from bothlots import shelves
from bothlots.behind import moved
from bothlots.errors import (DuplicateName, Full, InvalidColumn, InvalidCommand, InvalidName, InvalidNumber, InvalidSide, InvalidKey,
                             InvalidStep, InvalidText, InvalidThing, InvalidWord, NothingLeft, TooMany, UnknownColumn,
                             UnknownName)
from bothlots.growth import grown
from bothlots.hangs import leak
from bothlots.programs import Program
from bothlots.shelves import Shelf
from bothlots.touches import split

LOTS = ("learn", "judge")
ODD = (None, True, False, 0, 7, -1, "", "A", "a b", "toolong", "a.b", (), [], (1,), ["a"], ("a",), [[], (1, [2])])
ODD_LIMITS = (None, True, False, 0, 13, -1, 10 ** 14, "", "8", (), [], (8,), [8])

NEAR = "main a:name t:tick w:worth\nsort t\nnear last w a\nnear next w a\ncut before t 3\n"
MARK = "main a:name b:name\ncut mark 3 1 a\n"
ROUNDS = "main a:name b:name\ncut rounds 3 1\n"
TURNS = "main a:name t:tick w:worth\nsort t\nall w\ncut rounds 2 1\n"


def full_shelf(*names, limit=8, text=MARK):
    shelf = Shelf(limit=limit)
    shelf.apply(*[("put", name, text) for name in names])
    return shelf


def state(shelf):
    """All that a shelf tells."""
    texts = {name: shelf.program(name).text() for name in shelf.names()}
    return shelf.names(), texts, shelf.history(), shelf.limit, shelf.kept(), shelf.computed, len(shelf), repr(shelf), shelf.busy


class CommandTest(unittest.TestCase):
    def test_put(self):
        shelf = Shelf()
        self.assertIsNone(shelf.apply(("put", "b", MARK), ("put", "a", NEAR)))
        self.assertEqual((shelf.names(), shelf.program("b"), shelf.program("a").text()), (["a", "b"], Program.read(MARK), NEAR))
        shelf.apply(("put", "b", NEAR))
        self.assertEqual((shelf.names(), shelf.program("b"), shelf.history()), (["a", "b"], Program.read(NEAR), (2, 0)))

    def test_drop_and_rename(self):
        shelf = full_shelf("a", "b", "c")
        shelf.apply(("drop", "b"), ("rename", "c", "b"), ("put", "c", NEAR))
        self.assertEqual((shelf.names(), shelf.program("b").text(), shelf.program("c").text()), (["a", "b", "c"], MARK, NEAR))
        shelf.apply(("rename", "c", "own"), ("drop", "a"))
        self.assertEqual(shelf.names(), ["b", "own"])

    def test_behind(self):
        shelf = full_shelf("a", text=NEAR)
        shelf.apply(("behind", "a", (2, 1)))
        program = Program.read(NEAR)
        self.assertEqual(shelf.program("a"), moved(program, 1, 2))
        shelf.undo()
        shelf.apply(("behind", "a", (1,)), ("behind", "a", (1,)), ("behind", "a", ()))
        self.assertEqual(shelf.program("a"), moved(program, 1, 2))
        shelf.undo()
        shelf.apply(("behind", "a", (2,)), ("behind", "a", (1,)))
        self.assertEqual(shelf.program("a"), moved(moved(program, 2), 1))

    def test_no_commands(self):
        shelf = full_shelf("a")
        shelf.apply()
        self.assertEqual((shelf.history(), shelf.names()), ((2, 0), ["a"]))
        shelf.undo()
        shelf.apply()
        self.assertEqual(shelf.history(), (2, 0))

    def raises(self, kind, values, shelf, *commands):
        before = state(shelf)
        with self.assertRaises(kind) as caught:
            shelf.apply(*commands)
        error = caught.exception
        told = {name: value for name, value in vars(error).items() if name != "code"}
        self.assertEqual((list(told.values()), error.code), (list(values), kind.__name__))
        self.assertEqual(state(shelf), before)

    def test_errors_of_put(self):
        for name in ODD:
            for text in (MARK, "", 7, "main a:name\n"):
                self.raises(InvalidName, [name], full_shelf("a", limit=1), ("put", name, text))
        shelf = full_shelf("a", "b", limit=2)
        for text in (MARK, "", 7, "main a:name\n"):
            self.raises(Full, [2], shelf, ("put", "c", text))
        for text, kind, value in (("", InvalidText, 0), (None, InvalidText, 0), (True, InvalidText, 0), ([], InvalidText, 0),
                                  (MARK[:-1], InvalidText, 1), (MARK + "x\n", InvalidText, 2), ("main a:tick\ncut throw\n", InvalidColumn, 1),
                                  ("main a:name\nside a one h:name\ncut throw\n", InvalidSide, 0), ("main a:name\n", InvalidStep, 0),
                                  ("main a:name\nkey b\ncut throw\n", InvalidKey, ("b",)),
                                  ("main a:name\nsort a\ncut throw\n", InvalidStep, 0),
                                  ("main a:name k:x/y/z l:x/y/z m:x/y/z\ncut throw\n", TooMany, 24)):
            for name in ("a", "b"):
                self.raises(kind, [value], shelf, ("put", name, text))
        shelf.apply(("put", "a", NEAR))
        self.assertEqual(shelf.program("a").text(), NEAR)

    def test_errors_of_drop_and_rename(self):
        shelf = full_shelf("a", "b")
        for name in (*ODD, "c", "ab"):
            self.raises(UnknownName, [name], shelf, ("drop", name))
            for fresh in (*ODD, "a", "c"):
                self.raises(UnknownName, [name], shelf, ("rename", name, fresh))
        for fresh in ODD:
            self.raises(InvalidName, [fresh], shelf, ("rename", "a", fresh))
        for fresh in ("a", "b"):
            self.raises(DuplicateName, [fresh], shelf, ("rename", "a", fresh))

    def test_errors_of_behind(self):
        shelf = full_shelf("a", text=NEAR)
        for name in (*ODD, "c"):
            for steps in ((), (1,), (0,), (-1, 99)):
                self.raises(UnknownName, [name], shelf, ("behind", name, steps))
        for steps, value in (((0,), 0), ((3,), 3), ((-1,), -1), ((1, 4), 4), ((1, 1), 1), ((2, 1, 2), 2), ((1, 2, 1, 0), 1),
                             ((2, 0, 2), 0), ((10 ** 14,), 10 ** 14)):
            self.raises(InvalidStep, [value], shelf, ("behind", "a", steps))

    def test_wrong_forms(self):
        """They go ahead of everything else, wherever they stand."""
        wrong = [*ODD, ("put",), ("put", "a"), ("put", "a", MARK, 1), ("drop",), ("drop", "a", "b"), ("rename", "a"),
                 ("rename", "a", "b", "c"), ("behind", "a"), ("behind", "a", 1), ("behind", "a", [1]), ("behind", "a", (True,)),
                 ("behind", "a", (1, False)), ("behind", "a", ("1",)), ("behind", "a", (None,)), ("behind", "a", ((1,),)),
                 ("behind", "a", None), ("behind", "a", (1,), 2), ("Put", "a", MARK), ("undo",), ("take", "a", "b"), ["put", "a", MARK],
                 ["drop", "a"], (None, "a", "b"), (["put"], "a", MARK), (("put",), "a", MARK), (True, "a"), ("",), "drop a",
                 ("behind", 7, [1]), ("behind", [], (1, [2]))]
        right = [("put", "c", MARK), ("drop", "zz"), ("put", "A", 7), ("behind", None, (1, 2)), ("rename", [], {})]
        for value in wrong:
            shelf = full_shelf("a")
            for at in range(4):
                for commands in (right[:at] + [value] + right[at:], right[:at] + [value, None] + right[at:]):
                    self.raises(InvalidCommand, [at], shelf, *commands)

    def test_all_or_nothing(self):
        """A wrong command at each place, and right ones at the others."""
        rights = [("put", "d", NEAR), ("behind", "b", (1,)), ("rename", "a", "e")]
        wrongs = [(("drop", "zz"), UnknownName, "zz"), (("put", "Z", MARK), InvalidName, "Z"), (("put", "f", "x"), InvalidText, 0),
                  (("rename", "b", "c"), DuplicateName, "c"), (("behind", "c", (0,)), InvalidStep, 0)]
        for many in range(3):
            for order in itertools.permutations(rights, many):
                for (wrong, kind, value), at in itertools.product(wrongs, range(many + 1)):
                    shelf = full_shelf("a", "c")
                    shelf.apply(("put", "b", NEAR))
                    shelf.splits("a", "a")
                    shelf.undo()
                    shelf.redo()
                    self.raises(kind, [value], shelf, *order[:at], wrong, *order[at:])
                    self.assertEqual(shelf.kept(), [("a", "split", ("a",))])
                    shelf.apply(*order)
                    self.assertEqual(len(shelf), 3 + (rights[0] in order))

    def test_commands_see_what_those_ahead_did(self):
        shelf = full_shelf("a", "b", limit=2)
        self.raises(Full, [2], shelf, ("put", "c", MARK), ("drop", "a"))
        shelf.apply(("drop", "a"), ("put", "c", NEAR), ("rename", "c", "a"), ("behind", "a", (1,)), ("put", "b", MARK))
        self.assertEqual(shelf.program("a"), moved(Program.read(NEAR), 1))
        self.raises(DuplicateName, ["d"], shelf, ("rename", "a", "d"), ("rename", "b", "d"))
        self.raises(UnknownName, ["a"], shelf, ("rename", "a", "d"), ("drop", "a"))
        self.raises(InvalidStep, [2], shelf, ("behind", "a", (1,)), ("behind", "a", (2,)))

    def test_busy(self):
        """A shelf is busy while a command is done, and not behind it, whether or not it raises."""
        shelf = full_shelf("a")
        seen = []

        def done(programs, command, limit):
            seen.append(shelf.busy)
            if command[1] == "bad":
                raise UnknownName("bad")

        with unittest.mock.patch.dict(shelves.ACTIONS, {"drop": done}):
            shelf.apply(("drop", "a"), ("drop", "b"))
            self.assertEqual((seen, shelf.busy), ([True, True], False))
            self.raises(UnknownName, ["bad"], shelf, ("drop", "a"), ("drop", "bad"))
            self.assertEqual((seen, shelf.busy), ([True] * 4, False))
        for commands in ((7,), (("drop", "zz"),), ()):
            try:
                shelf.apply(*commands)
            except (InvalidCommand, UnknownName):
                pass
            self.assertFalse(shelf.busy)

    def test_after_an_error_all_goes_on(self):
        shelf = full_shelf("a")
        shelf.undo()
        self.raises(UnknownName, ["a"], shelf, ("put", "b", MARK), ("drop", "a"))
        self.assertEqual((shelf.history(), shelf.busy), ((0, 1), False))
        shelf.redo()
        self.assertEqual(shelf.names(), ["a"])


class StepTest(unittest.TestCase):
    def test_to_the_ends(self):
        shelf = Shelf()
        steps = [[("put", "a", MARK)], [], [("put", "b", NEAR), ("drop", "a")], [("rename", "b", "c")], [("behind", "c", (2,))],
                 [("put", "c", MARK)]]
        states = [state(shelf)[:2]]
        for commands in steps:
            shelf.apply(*commands)
            states.append(state(shelf)[:2])
        for _ in range(2):
            for many in range(len(steps), 0, -1):
                self.assertEqual((state(shelf)[:2], shelf.history()), (states[many], (many, len(steps) - many)))
                self.assertIsNone(shelf.undo())
            for _ in range(2):
                with self.assertRaises(NothingLeft) as caught:
                    shelf.undo()
            self.assertEqual((caught.exception.code, state(shelf)[:2]), ("NothingLeft", states[0]))
            for many in range(len(steps)):
                self.assertEqual(state(shelf)[:2], states[many])
                self.assertIsNone(shelf.redo())
            with self.assertRaises(NothingLeft):
                shelf.redo()
            self.assertEqual((state(shelf)[:2], shelf.busy), (states[-1], False))

    def test_a_step_ends_redo(self):
        for commands in ([], [("put", "b", NEAR)]):
            shelf = full_shelf("a")
            shelf.apply(("drop", "a"))
            shelf.undo()
            self.assertEqual(shelf.history(), (1, 1))
            shelf.apply(*commands)
            self.assertEqual(shelf.history(), (2, 0))
            with self.assertRaises(NothingLeft):
                shelf.redo()


class LimitTest(unittest.TestCase):
    def test_limits(self):
        self.assertEqual((Shelf().limit, Shelf.MOST, Shelf(limit=3).MOST), (8, 12, 12))
        for limit in range(1, 13):
            shelf = Shelf(limit=limit)
            self.assertEqual(shelf.limit, limit)
            shelf.apply(*[("put", name, MARK) for name in "abcdefghijkl"[:limit]])
            with self.assertRaises(Full) as caught:
                shelf.apply(("put", "z", MARK))
            self.assertEqual((caught.exception.most, len(shelf)), (limit, limit))

    def test_wrong_limits(self):
        shelf = full_shelf("a", "b", "c")

        def assign(value):
            shelf.limit = value

        for value in ODD_LIMITS:
            with self.assertRaises(InvalidNumber) as caught:
                Shelf(limit=value)
            self.assertEqual((caught.exception.given, caught.exception.code), (value, "InvalidNumber"))
        for value in (*ODD_LIMITS, 1, 2):
            for call in (assign, shelf.set_limit):
                with self.subTest(value=value), self.assertRaises(InvalidNumber) as caught:
                    call(value)
                self.assertEqual((caught.exception.given, shelf.limit), (value, 8))
        for value in (3, 12, 4):
            assign(value)
            self.assertEqual(shelf.limit, value)
            self.assertIsNone(shelf.set_limit(value + 1 if value < 12 else 5))
            self.assertEqual(shelf.limit, value + 1 if value < 12 else 5)

    def test_undo_and_redo_do_not_look_at_it(self):
        shelf = full_shelf("a", "b", "c")
        shelf.apply(("drop", "a"), ("drop", "b"))
        shelf.limit = 1
        self.assertEqual(shelf.history(), (2, 0))
        shelf.undo()
        self.assertEqual((shelf.names(), shelf.limit), (["a", "b", "c"], 1))
        with self.assertRaises(Full) as caught:
            shelf.apply(("put", "d", MARK))
        self.assertEqual(caught.exception.most, 1)
        shelf.apply(("put", "a", NEAR), ("rename", "b", "d"))
        for value in (1, 2):
            with self.assertRaises(InvalidNumber):
                shelf.limit = value
        shelf.limit = 3
        shelf.undo()
        shelf.undo()
        self.assertEqual((shelf.limit, shelf.names()), (3, []))
        shelf.limit = 1
        shelf.redo()
        self.assertEqual((shelf.limit, len(shelf), shelf.history()), (1, 3, (1, 1)))


class QuestionTest(unittest.TestCase):
    def shelf(self):
        shelf = Shelf()
        shelf.apply(("put", "near", NEAR), ("put", "mark", MARK), ("put", "rounds", ROUNDS), ("put", "turns", TURNS))
        return shelf

    def test_answers(self):
        shelf = self.shelf()
        for name in shelf.names():
            program = shelf.program(name)
            for thing in [("a",)] + ([("b",), ("a", "b"), ("b", "a")] if "b" in program else []):
                self.assertIs(shelf.splits(name, *thing), bool(split(program, thing)))
            for worth in program.columns_of("worth"):
                self.assertIs(shelf.leaks(name, worth), bool(leak(program, worth, "learn")))
                for lot in LOTS:
                    self.assertIs(shelf.leaks(name, worth, lot=lot), bool(leak(program, worth, lot)))
            for growth in ("end", "late", "any"):
                self.assertIs(shelf.moves(name, growth), bool(grown(program, growth)))
        answers = [shelf.splits("mark", "a"), shelf.splits("mark", "b"), shelf.leaks("turns", "w"), shelf.moves("turns", "end"),
                   shelf.moves("turns", "late")]
        self.assertEqual(answers, [False, True, True, True, False])

    def test_kept_and_computed(self):
        shelf = self.shelf()
        self.assertEqual((shelf.kept(), shelf.computed), ([], 0))
        asked = [lambda: shelf.splits("mark", "b", "a"), lambda: shelf.moves("turns", "late"), lambda: shelf.splits("mark", "a", "b"),
                 lambda: shelf.leaks("near", "w", lot="judge"), lambda: shelf.leaks("near", "w"), lambda: shelf.splits("mark", "a"),
                 lambda: shelf.moves("mark", "any"), lambda: shelf.moves("turns", "end"), lambda: shelf.splits("turns", "a")]
        for many, question in enumerate(asked, 1):
            answer = question()
            self.assertEqual((shelf.computed, len(shelf.kept())), (many, many))
            self.assertIs(question(), answer)
            self.assertEqual(shelf.computed, many)
        kept = [("mark", "moves", "any"), ("mark", "split", ("a",)), ("mark", "split", ("a", "b")), ("mark", "split", ("b", "a")),
                ("near", "leak", "w", "judge"), ("near", "leak", "w", "learn"), ("turns", "moves", "end"), ("turns", "moves", "late"),
                ("turns", "split", ("a",))]
        self.assertEqual(shelf.kept(), kept)
        shelf.leaks("near", "w", lot="learn")
        shelf.kept().clear()
        self.assertEqual((shelf.computed, shelf.kept()), (9, kept))

    def test_wrong_questions(self):
        shelf = self.shelf()
        for name in (*ODD, "zz"):
            for call in (lambda: shelf.splits(name), lambda: shelf.splits(name, "a"), lambda: shelf.leaks(name, "w"),
                         lambda: shelf.leaks(name, 7, lot=7), lambda: shelf.moves(name, "end"), lambda: shelf.moves(name, 7),
                         lambda: shelf.program(name)):
                with self.subTest(name=name), self.assertRaises(UnknownName) as caught:
                    call()
                self.assertEqual((caught.exception.name, caught.exception.code), (name, "UnknownName"))
        for thing in ((), ("zz",), ("a", "a"), ("w",), ("a", ["b"]), (None,), (True,), ("a", "b", "a"), (("a",),), (["a"],)):
            with self.subTest(thing=thing), self.assertRaises(InvalidThing) as caught:
                shelf.splits("mark", *thing)
            self.assertEqual(caught.exception.given, thing)
        for worth in (*ODD, "a", "t", "own"):
            for lot in (*LOTS, 7):
                with self.subTest(worth=worth), self.assertRaises(UnknownColumn) as caught:
                    shelf.leaks("near", worth, lot=lot)
                self.assertEqual(caught.exception.name, worth)
        for value in (*ODD, "learns", LOTS):
            with self.assertRaises(InvalidWord) as caught:
                shelf.leaks("near", "w", lot=value)
            self.assertEqual(caught.exception.given, value)
            with self.assertRaises(InvalidWord) as caught:
                shelf.moves("near", value)
            self.assertEqual(caught.exception.given, value)
        self.assertEqual((shelf.kept(), shelf.computed), ([], 0))

    def asked(self, shelf):
        """Ask a question of each program; what is kept then."""
        for name in shelf.names():
            shelf.moves(name, "any")
        return shelf.kept()

    def test_over_steps(self):
        """An answer is kept as long as the program of the name is an equal one."""
        for commands, lost in (
                ([], []), ([("put", "fresh", MARK)], []), ([("put", "mark", MARK)], []), ([("put", "mark", NEAR)], ["mark"]),
                ([("drop", "mark")], ["mark"]), ([("rename", "mark", "fresh")], ["mark"]), ([("behind", "near", (1,))], ["near"]),
                ([("behind", "near", ())], []), ([("drop", "mark"), ("put", "mark", MARK)], []),
                ([("rename", "mark", "fresh"), ("rename", "fresh", "mark")], []),
                ([("rename", "mark", "fresh"), ("rename", "near", "mark"), ("rename", "fresh", "near")], ["mark", "near"]),
                ([("drop", "turns"), ("behind", "near", (2, 1)), ("put", "mark", ROUNDS)], ["mark", "near", "turns"])):
            shelf = self.shelf()
            kept = self.asked(shelf)
            shelf.splits("near", "a")
            kept = shelf.kept()
            left = [question for question in kept if question[0] not in lost]
            with self.subTest(commands=commands):
                shelf.apply(*commands)
                self.assertEqual((shelf.kept(), shelf.computed), (left, 5))
                shelf.undo()
                self.assertEqual((shelf.kept(), shelf.computed), (left, 5))
                self.asked(shelf)
                many = 5 + len(lost)
                self.assertEqual(shelf.computed, many)
                shelf.redo()
                self.assertEqual((shelf.kept(), shelf.computed), (left, many))

    def test_over_undo_and_redo(self):
        shelf = full_shelf("a")
        shelf.apply(("put", "a", NEAR), ("put", "b", MARK))
        self.asked(shelf)
        shelf.undo()
        self.assertEqual(shelf.kept(), [])
        self.assertFalse(shelf.moves("a", "any"))
        shelf.redo()
        self.assertEqual((shelf.kept(), shelf.computed), ([], 3))
        shelf.apply()
        self.asked(shelf)
        shelf.undo()
        shelf.redo()
        shelf.undo()
        self.assertEqual((len(shelf.kept()), shelf.computed), (2, 5))

    def test_answers_of_the_new_program(self):
        shelf = full_shelf("a")
        self.assertFalse(shelf.splits("a", "a"))
        shelf.apply(("put", "a", ROUNDS))
        self.assertTrue(shelf.splits("a", "a"))
        shelf.undo()
        self.assertFalse(shelf.splits("a", "a"))
        self.assertEqual(shelf.computed, 3)
        shelf.apply(("put", "n", NEAR))
        self.assertTrue(shelf.leaks("n", "w", lot="judge"))
        shelf.apply(("behind", "n", (1,)))
        self.assertEqual([shelf.leaks("n", "w", lot=lot) for lot in LOTS], [True, False])

    def test_a_limit_is_no_step(self):
        shelf = full_shelf("a")
        kept = self.asked(shelf)
        shelf.limit = 2
        self.assertEqual((shelf.kept(), shelf.history()), (kept, (1, 0)))


class TwinTest(unittest.TestCase):
    def test_twins(self):
        shelf = full_shelf("a", "b", limit=5)
        shelf.apply(("drop", "b"))
        shelf.apply(("put", "c", NEAR))
        shelf.undo()
        shelf.splits("a", "a")
        shelf.moves("a", "end")
        twin = shelf.twin()
        self.assertEqual((type(twin), state(twin)), (Shelf, state(shelf)))
        before = state(shelf)
        self.assertFalse(twin.splits("a", "a"))
        self.assertEqual((twin.computed, twin.history()), (2, (2, 1)))
        twin.moves("a", "late")
        twin.limit = 9
        twin.redo()
        self.assertEqual((twin.names(), twin.computed), (["a", "c"], 3))
        twin.undo()
        twin.undo()
        twin.undo()
        self.assertEqual((twin.names(), twin.history(), twin.kept()), ([], (0, 3), []))
        twin.apply(("put", "x", MARK))
        self.assertEqual(state(shelf), before)
        after = state(twin)
        shelf.redo()
        shelf.apply(("put", "a", ROUNDS))
        shelf.limit = 3
        self.assertEqual(state(twin), after)

    def test_a_twin_over_the_limit(self):
        shelf = full_shelf("a", "b")
        shelf.apply(("drop", "a"))
        shelf.limit = 1
        shelf.undo()
        self.assertEqual(state(shelf.twin()), state(shelf))


class ValueTest(unittest.TestCase):
    def test_in(self):
        shelf = full_shelf("a", "b")
        self.assertTrue("a" in shelf and "b" in shelf)
        for value in (*ODD, "c", {}, Program.read(MARK)):
            self.assertFalse(value in shelf)

    def test_equal(self):
        shelf = full_shelf("a", "b")
        other = Shelf(limit=3)
        other.apply(("put", "b", MARK))
        self.assertTrue(shelf != other)
        other.apply(("put", "c", MARK))
        self.assertFalse(shelf == other)
        other.apply(("rename", "c", "a"))
        other.splits("a", "a")
        self.assertTrue(shelf == other and other == shelf and shelf == shelf.twin())
        self.assertFalse(shelf != other)
        other.apply(("put", "a", NEAR))
        self.assertFalse(shelf == other)
        self.assertTrue(Shelf() == Shelf(limit=1))
        for value in (*ODD, {}, ["a", "b"], {"a": shelf.program("a")}, shelf.program("a"), repr(shelf)):
            self.assertFalse(shelf == value)
            self.assertTrue(shelf != value)

    def test_length_and_repr(self):
        shelf = full_shelf("a", "b")
        self.assertEqual([(len(each), repr(each)) for each in (shelf, full_shelf("a"), Shelf())],
                         [(2, "Shelf(2 programs)"), (1, "Shelf(1 programs)"), (0, "Shelf(0 programs)")])
        shelf.names().clear()
        self.assertEqual(shelf.names(), ["a", "b"])
        self.assertIs(Shelf().busy, False)


if __name__ == "__main__":
    unittest.main()
