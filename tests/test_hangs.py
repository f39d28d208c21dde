"""Whether a program leaks a worth into a lot: ways and tables that show it, and closed lists of states."""

import itertools
import random
import unittest

import naive
from bothlots.chains import crosses, links, starts
from bothlots.errors import InvalidWord, OtherProgram, UnknownColumn
from bothlots.hangs import Leak, Tight, leak
from bothlots.papers import Paper
from bothlots.programs import Program
from bothlots.runs import Run
from bothlots.tables import Setting, Tables
from samples import drawn_tables

LOTS = ("learn", "judge")
ODD = (None, True, False, 0, 7, -1, "", "leak", (), [], (1,), ["a"], ((),), [[], (1, [2])], ("own",))


def program_of(*lines):
    return Program.read("".join(line + "\n" for line in lines))


LOOKS = "keep or or or and is kx u is ky m and is kx u is ky n and is kx v is ky n and is kx v is ky o"
ENDS = "keep or and is kx u is ky m and is kx v is ky o"
TAGS = "main a:name t:tick kx:u/v/w ky:m/n/o w:worth"

# Programs with the numbers of states of the ways into learn and into judge, None for a tight one.
CASES = (
    (["main day:tick person:name w:worth", "sort day", "near last w person", "cut before day 7"], None, 2),
    (["main day:tick person:name w:worth", "sort day", "near next w person", "cut before day 7"], 2, None),
    (["main day:tick person:name w:worth", "sort day", "near next w person day", "cut before day 7"], None, None),
    (["main day:tick person:name w:worth", "near last w person", "cut before day 7"], 2, 2),
    (["main day:tick person:name w:worth", "all w day", "cut before day 7"], None, None),
    (["main day:tick person:name w:worth", "cut before day 7", "all w"], None, None),
    (["main day:tick a:name w:worth", "near last w", "cut share 1 3"], None, 2),
    (["main day:tick a:name w:worth", "near next w", "cut share 11 12"], 2, None),
    (["main day:tick a:name w:worth", "near next w", "sort day", "cut share 1 3"], 2, 2),
    (["main day:tick a:name w:worth", "sort day", "near next w", "cut share 2 3"], 2, None),
    (["main day:tick a:name w:worth", "sort day", "near next w a", "near last w day", "cut share 2 3"], 2, 2),
    (["main t:tick u:tick a:name w:worth", "sort t", "sort u", "near last w a", "sort t", "cut share 1 2"], 2, 2),
    (["main t:tick u:tick a:name w:worth", "sort t", "sort u", "near last w a u", "sort u", "cut share 1 2"], None, 2),
    (["main t:tick u:tick a:name w:worth", "key t", "sort t", "near last w a", "cut before t 0"], None, 2),
    (["main t:tick u:tick a:name w:worth", "key t", "sort t", "near last w a t", "cut before u 0"], None, None),
    (["main a:name b:name w:worth", "all w a", "cut mark 3 1 a"], None, None),
    (["main a:name b:name w:worth", "all w a", "cut mark 3 1 b"], 2, 2),
    (["main a:name b:name w:worth", "key a b", "near last w a", "near last w b", "cut mark 2 0 a"], 2, 2),
    (["main a:name b:name w:worth", "all w a", "cut groups 4 0,2 a b"], 2, 2),
    (["main a:name b:name w:worth", "key a", "all w a", "cut throw"], None, None),
    (["main a:name b:name w:worth", "once a", "all w b", "cut throw", "once b"], 2, 2),
    (["main a:name b:name w:worth", "all w a", "cut rounds 5 0,4"], 2, 2),
    (["main a:name w:worth v:worth", "all v a", "cut throw"], None, None),
    (["main a:name w:worth", "twice 2", "cut throw"], 1, 1),
    (["main a:name w:worth", "twice 2", "cut share 1 12", "once a"], 1, 1),
    (["main a:name w:worth", "twice 2", "cut rounds 4 1"], 1, 1),
    (["main a:name w:worth", "twice 2", "cut rounds 4 0,1"], None, None),
    (["main a:name w:worth", "near next w", "twice 2", "cut rounds 4 0,1"], 2, 2),
    (["main a:name w:worth", "twice 2", "twice 2", "cut rounds 4 0,1"], 1, 1),
    (["main a:name t:tick w:worth", "twice 2", "cut before t 4"], None, None),
    (["main a:name w:worth", "twice 3", "cut mark 2 1 a"], None, None),
    (["main a:name w:worth", "cut throw", "twice 3"], None, None),
    (["main a:name w:worth", "side f many p:name", "fan f a", "cut mark 2 1 f.p"], 1, 1),
    (["main a:name w:worth", "side f many p:name", "fan f a", "cut mark 2 1 a"], None, None),
    (["main a:name w:worth", "side f many p:name", "fan f a", "cut rounds 2 1"], 1, 1),
    (["main a:name w:worth", "side f many q:x/y", "fan f a", "cut groups 2 1 a f.q"], 1, 1),
    (["main a:name w:worth", "side f many q:x", "fan f a", "cut groups 2 1 a f.q"], None, None),
    (["main a:name w:worth", "side f many q:x", "near last w", "fan f a", "cut groups 2 1 a f.q"], 2, 2),
    (["main a:name t:tick w:worth", "side f many q:x/y", "near last w a", "fan f a", "cut before t 0", "once a f.q"], 2, 2),
    (["main a:name w:worth", "side s one h:name", "left s a", "all w s.h", "cut mark 5 4 s.h"], None, None),
    (["main a:name w:worth", "side s one h:name", "left s a", "all w s.h", "keep has s", "cut mark 5 4 a"], 2, 2),
    (["main a:name w:worth", "side s one h:name", "left s a", "all w s.h", "keep not has s", "cut mark 5 4 s.h"], None, None),
    (["main a:name k:x/y w:worth", "keep is k x", "keep is k y", "near last w", "twice 2", "cut throw"], None, None),
    (["main a:name k:x/y w:worth", "near last w a", "keep is k x", "cut mark 2 1 k"], None, None),
    (["main a:name k:x/y w:worth", "key a k", "near last w a", "keep is k x", "cut throw"], None, None),
    (["main a:name b:name k:x/y w:worth", "key a k", "near last w b", "near next w a", "keep is k x", "cut mark 2 1 b"], 3, 3),
    (["main a:name kx:u/v ky:m/n w:worth", "all w ky", "all w kx", "keep or and is kx u is ky m and is kx v is ky n",
      "cut mark 2 0 kx ky"], 3, 3),
    ([TAGS, LOOKS, "all w kx", "all w ky", "all w kx", ENDS, "cut groups 3 1 a kx"], 2, 2),
    ([TAGS, LOOKS, "all w kx", "all w ky", "all w kx", ENDS, "cut mark 3 1 kx"], 4, 4),
    ([TAGS, LOOKS, "near last w kx", "near next w ky", "near last w kx", ENDS, "cut mark 3 1 ky"], 4, 4),
    ([TAGS, "key a t", LOOKS, "near last w kx", "sort t", "near next w ky", "near last w kx", ENDS, "cut mark 2 1 kx ky"], 4, 4),
)


class CaseTest(unittest.TestCase):
    def shows(self, program, worth, lot, many):
        """A Leak is gone through state by state and run anew."""
        paper = leak(program, worth, lot)
        self.assertEqual((type(paper), paper.told(), bool(paper), paper.holds()), (Leak, "leak", True, True))
        self.assertEqual((paper.basis, paper.worth, paper.lot), (program, worth, lot))
        self.assertEqual((type(paper.tables), type(paper.setting), type(paper.way)), (Tables, Setting, list))
        self.assertEqual(len(paper.way), many)
        self.assertIn(paper.way[0], naive.starts(program))
        for state, new in zip(paper.way, paper.way[1:]):
            self.assertIn(new, naive.links(program, worth, state))
        if many == 1:
            self.assertTrue(naive.doubled(program))
        else:
            self.assertTrue(naive.crosses(program, paper.way[-1], lot))
        run = Run(program, paper.tables, paper.setting)
        self.assertEqual(paper.run().rows(), run.rows())
        number, own = run.leak(worth, lot)
        self.assertEqual(run.rows()[number][1], lot)
        self.assertIn(own, run.hangs_on(number, worth))
        self.assertIn(LOTS[lot == "learn"], run.lots(own))

    def closes(self, program, worth, lot):
        """A Tight has all that can be reached and no more."""
        paper = leak(program, worth, lot)
        self.assertEqual((type(paper), paper.told(), bool(paper), paper.holds()), (Tight, "tight", False, True))
        self.assertEqual((paper.basis, paper.worth, paper.lot, type(paper.states)), (program, worth, lot, list))
        reached = naive.reached(program, worth)
        self.assertEqual(sorted(paper.states, key=repr), sorted(reached, key=repr))
        self.assertFalse(any(naive.crosses(program, state, lot) for state in reached))
        self.assertFalse(naive.doubled(program))

    def told(self, program, worth, lot, many):
        if many is None:
            self.closes(program, worth, lot)
        else:
            self.shows(program, worth, lot, many)

    def test_cases(self):
        for lines, learn, judge in CASES:
            for lot, many in (("learn", learn), ("judge", judge)):
                with self.subTest(lines=lines, lot=lot):
                    self.told(program_of(*lines), "w", lot, many)

    def test_against_the_plain_words(self):
        for program in naive.programs():
            for worth in program.columns_of("worth"):
                for lot in LOTS:
                    with self.subTest(program=program.text(), lot=lot):
                        self.told(program, worth, lot, naive.shortest(program, worth, lot))

    def test_orders(self):
        """Ways over a row that does not come to the cut, in each order of the rows."""
        looks = ["keep or or and is kx u is ky m and is kx u is ky n and is kx v is ky n",
                 "keep or and is kx u is ky m and is kx v is ky n"]
        lengths = []
        for one, other, at in itertools.product(("last", "next"), ("last", "next"), range(4)):
            steps = [looks[0], f"near {one} w ky a", f"near {other} w kx", looks[1]]
            for cut in ("cut share 1 3", "cut share 3 4", "cut before t 5"):
                program = program_of("main a:name t:tick kx:u/v ky:m/n w:worth", "key a kx", *steps[:at], "sort t", *steps[at:], cut)
                for lot in LOTS:
                    with self.subTest(program=program.text(), lot=lot):
                        lengths.append(self.shortest(program, lot))
                        paper = leak(program, "w", lot)
                        self.assertTrue(paper.holds())
                        self.assertEqual(len(paper.way) if paper else None, lengths[-1])
        self.assertEqual({2, 3}, set(lengths) - {None})

    def shortest(self, program, lot):
        level, many, seen = starts(program), 1, {}
        while level:
            if any(crosses(program, state, lot) for state in level):
                return many
            seen.update(dict.fromkeys(level))
            level = list(dict.fromkeys(new for state in level for new in links(program, "w", state) if new not in seen))
            many += 1
        return None

    def test_example(self):
        program = Program.read("main day:tick person:name pulse:worth\nsort day\nnear last pulse person\ncut before day 7\n")
        self.assertEqual([leak(program, "pulse", "learn").told(), leak(program, "pulse", "judge").told(),
                          len(leak(program, "pulse", "judge").way)], ["tight", "leak", 2])

    def test_a_tight_is_so_on_any_tables(self):
        chance = random.Random(7)
        for program in naive.programs() + [program_of(*lines) for lines, _, _ in CASES]:
            tight = [(worth, lot) for worth in program.columns_of("worth") for lot in LOTS if not leak(program, worth, lot)]
            for _ in range(20 if tight else 0):
                run = Run(program, *drawn_tables(program, chance))
                for worth, lot in tight:
                    self.assertIsNone(run.leak(worth, lot))

    def test_errors_and_their_order(self):
        program = program_of("main a:name w:worth", "all w a", "cut throw")
        for worth in ("a", "own", "", "v", None, True, 1, ("w",), ["w"], [], ()):
            for lot in ("learn", "both", None):
                with self.subTest(worth=worth), self.assertRaises(UnknownColumn) as caught:
                    leak(program, worth, lot)
                self.assertEqual((type(caught.exception.name), caught.exception.name), (type(worth), worth))
        tight = program_of("main a:name w:worth", "key a", "all w a", "cut throw")
        doubled = program_of("main a:name w:worth", "twice 2", "cut throw")
        for lot in ("both", "", "Learn", None, True, 0, ("learn",), ["judge"], []):
            for asked in (program, tight, doubled):
                with self.subTest(lot=lot), self.assertRaises(InvalidWord) as caught:
                    leak(asked, "w", lot)
                self.assertEqual((type(caught.exception.given), caught.exception.given), (type(lot), lot))


class PapersTest(unittest.TestCase):
    program = program_of("main a:name w:worth", "near last w a", "cut throw")

    def test_classes(self):
        for kind, told, truth, more in ((Leak, "leak", True, ([], Setting(), [])), (Tight, "tight", False, ([],))):
            paper = kind(self.program, "w", "judge", *more)
            self.assertIsInstance(paper, Paper)
            self.assertEqual((paper.told(), repr(paper), paper.basis), (told, f"Paper({told})", self.program))
            self.assertEqual((paper.worth, paper.lot, paper.program), ("w", "judge", self.program))
            self.assertIs(bool(paper), truth)
            for name in ("told", "holds", "basis", "worth", "lot", "__bool__", "__repr__"):
                self.assertIn(name, vars(kind))
            for name in ("basis", "worth", "lot"):
                with self.assertRaises(AttributeError):
                    setattr(paper, name, None)
        self.assertIn("run", vars(Leak))
        self.assertLessEqual({"tables", "setting", "way"}, set(vars(Leak)))
        self.assertIn("states", vars(Tight))

    def test_new_lists(self):
        given, setting = [[1, [2]], ("x", [3])], Setting()
        papers = (Leak(self.program, "w", "judge", given, setting, given), Tight(self.program, "w", "judge", given))
        given[0][1].append(4)
        given.pop()
        asks = (lambda: papers[0].tables, lambda: papers[0].way, lambda: papers[1].states)
        for ask in asks:
            self.assertEqual(ask(), [[1, [2]], ("x", [3])])
            ask()[0][1].append(5)
            ask()[1][1].clear()
            ask().clear()
            self.assertEqual(ask(), [[1, [2]], ("x", [3])])
        self.assertIs(papers[0].setting, setting)


class BentLeakTest(unittest.TestCase):
    program = program_of("main a:name k:x/y w:worth", "all w k", "near last w a", "cut mark 2 1 a k")
    tables = Tables(program, [("p", "x"), ("p", "y"), ("q", "x")])
    # The second row hangs on the first one, and with that one on the third one.
    setting = Setting({("p", "x"): 0, ("p", "y"): 1, ("q", "x"): 0})

    def setUp(self):
        self.start = (2, ("y",), ("y",), ("a", "k", "own"), ("=",))
        self.first = (1, ("y",), ("x",), ("a",), (">",))
        self.second = (0, ("y",), ("x",), (), (">",))

    def holds(self, way, lot="judge", tables=None, setting=None, program=None, worth="w"):
        tables = self.tables if tables is None else tables
        return Leak(program or self.program, worth, lot, tables, setting or self.setting, way).holds()

    def test_right(self):
        self.assertTrue(self.holds([self.start, self.first]))
        self.assertTrue(self.holds((self.start, self.first)))
        self.assertTrue(self.holds([self.start, self.first, self.second]))
        self.assertTrue(leak(self.program, "w", "judge").holds())

    def test_bent_ways(self):
        start, first, second = self.start, self.first, self.second
        inside = (0, ("y",), ("y",), ("k",), ("<",))
        for way in ([], [start], [first], [first, second], [start, start], [start, second, first], [start, first, first],
                    [start, (1, ("y",), ("x",), ("a",), ("<",))], [start, (1, ("y",), ("x",), (), (">",))],
                    [start, (1, ("y",), ("x",), ("a", "k"), (">",))], [start, (0, ("y",), ("x",), ("a",), (">",))],
                    [start, (1, ("x",), ("y",), ("a",), (">",))], [(2, ("y",), ("y",), ("k", "a", "own"), ("=",)), first],
                    [(2, ("y",), ("y",), ("a", "k"), ("=",)), first], [(1, *start[1:]), first], [start, first, start],
                    [start, (1, ("y",), ("x",), ("a",), (">", "<"))], [start, (1, ("y",), ("x",), ["a"], (">",))],
                    [start, [1, ("y",), ("x",), ("a",), (">",)]], [list(start), first], [start, first[:4]],
                    [start, (True, *first[1:])], [start, (*first, ())], [start, (1, ("y",), ("x",), ("a",), ">")],
                    [start, ("1", *first[1:])], [start, (1, "y", "x", ("a",), (">",))], [start, None], [None, first],
                    [start, first, 5], [5], [()], [start, ()], [[]], [start, (1, ("y",), (["x"],), ("a",), (">",))]):
            with self.subTest(way=way):
                self.assertFalse(self.holds(way))
        # A link by "all" leads from the start to a row with the same tag, which has another name: it crosses, too.
        self.assertTrue(crosses(self.program, inside, "judge"))
        self.assertTrue(self.holds([start, inside]))

    def test_odd_ways_and_tables(self):
        for odd in ODD:
            self.assertFalse(self.holds(odd))
            paper = Leak(self.program, "w", "judge", odd, self.setting, [self.start, self.first])
            self.assertFalse(paper.holds())
            self.assertTrue(bool(paper))
            with self.assertRaises(OtherProgram):
                paper.run()
        for odd in (self.program, self.setting):
            self.assertFalse(Leak(self.program, "w", "judge", odd, self.setting, [self.start, self.first]).holds())

    def test_bent_runs(self):
        way = [self.start, self.first]
        self.assertFalse(self.holds(way, setting=Setting({("p", "x"): 1, ("p", "y"): 1, ("q", "x"): 1})))
        self.assertFalse(self.holds(way, setting=Setting({("p", "x"): 1, ("p", "y"): 0, ("q", "x"): 1}),
                                    tables=Tables(self.program, [("p", "x")])))
        self.assertFalse(self.holds(way, tables=Tables(self.program, [])))
        other = program_of("main a:name k:x/y w:worth", "all w k", "near last w a", "cut mark 2 1 a k", "twice 2")
        self.assertFalse(self.holds(way, tables=Tables(other, self.tables.rows())))
        with self.assertRaises(OtherProgram):
            Leak(self.program, "w", "judge", Tables(other, []), self.setting, way).run()
        again = program_of("main a:name k:x/y w:worth", "all w k", "near last w a", "cut mark 2 1 a k")
        self.assertTrue(self.holds(way, tables=Tables(again, self.tables.rows())))

    def test_the_other_lot(self):
        # The way crosses into both lots, so the run alone tells.
        way = [self.start, self.first]
        self.assertTrue(crosses(self.program, self.first, "learn"))
        self.assertFalse(self.holds(way, "learn", tables=Tables(self.program, self.tables.rows()[:2])))
        turned = Setting({("p", "x"): 1, ("p", "y"): 0})
        self.assertTrue(self.holds(way, "learn", tables=Tables(self.program, self.tables.rows()[:2]), setting=turned))
        before = program_of("main a:name t:tick w:worth", "sort t", "near last w a", "cut before t 3")
        (start,) = starts(before)
        tables = Tables(before, [("p", 2), ("p", 3)])
        state = (1, (), (), ("a",), (">", ">"))
        self.assertTrue(self.holds([start, state], "judge", tables, Setting(), before))
        self.assertFalse(self.holds([start, state], "learn", tables, Setting(), before))
        # The way need not be the one that the run goes.
        self.assertTrue(self.holds([start, (1, (), (), ("a",), (">", "<"))], "judge", tables, Setting(), before))
        self.assertFalse(self.holds([start, (1, (), (), ("a", "t"), ("=", ">"))], "judge", tables, Setting(), before))

    def test_doubles(self):
        program = program_of("main a:name k:x/y w:worth", "near last w a", "twice 2", "cut throw")
        tables, setting = Tables(program, [("p", "x"), ("p", "x")]), Setting(throws=[0, 1])
        one, other = starts(program)
        for lot in LOTS:
            for way in ([one], [other], (one,)):
                self.assertTrue(self.holds(way, lot, tables, setting, program))
            for way in ([], [one, one], [(0, ("x",), ("x",), ("a", "k"), (">",))], [one, 5], [(1, *one[1:])]):
                self.assertFalse(self.holds(way, lot, tables, setting, program))
            longer = [one, (0, ("x",), ("x",), ("a", "k"), (">",))]
            self.assertTrue(self.holds(longer, lot, tables, setting, program))
            self.assertFalse(self.holds([one], lot, tables, Setting(), program))
        plain = program_of("main a:name k:x/y w:worth", "near last w a", "cut throw")
        plain_tables = Tables(plain, [("p", "x"), ("p", "x")])
        self.assertFalse(self.holds(starts(plain)[:1], "judge", plain_tables, setting, plain))


class BentTightTest(unittest.TestCase):
    program = program_of("main t:tick a:name w:worth", "sort t", "near last w a", "cut before t 7")

    def setUp(self):
        self.states = leak(self.program, "w", "learn").states

    def holds(self, states, lot="learn", program=None):
        return Tight(program or self.program, "w", lot, states).holds()

    def test_right(self):
        self.assertEqual(len(self.states), 4)
        self.assertTrue(self.holds(self.states))
        self.assertTrue(self.holds(tuple(self.states)))
        self.assertTrue(self.holds(self.states[::-1]))
        self.assertTrue(self.holds(self.states + self.states[1:3]))

    def test_one_left_out(self):
        for at in range(4):
            self.assertFalse(self.holds(self.states[:at] + self.states[at + 1:]))
        self.assertFalse(self.holds([]))

    def test_one_too_many(self):
        more = [(1, (), (), ("a",), ("<", "<")), (1, (), (), ("a", "t"), ("=", "<")), (0, (), (), ("a",), (">", "<")),
                (2, (), (), ("a", "t"), ("=", "=")), (1, ("x",), (), ("a",), (">", "<")), (1, (), (), (), (">", "<")),
                [1, (), (), ("a",), (">", "<")], (True, (), (), ("a",), (">", "<")), (1, (), (), ["a"], (">", "<")),
                (1, [], (), ("a",), (">", "<")), (1, (), (), ("a",), (">", ["<"])), (1, (), (), ("a",)),
                (1, (), (), ("a",), (">", "<"), ()), (1, None, (), ("a",), (">", "<"))] + list(ODD)
        for item in more:
            with self.subTest(item=item):
                self.assertFalse(self.holds(self.states + [item]))
                self.assertFalse(self.holds([item] + self.states))
                for at in range(4):
                    self.assertFalse(self.holds(self.states[:at] + [item] + self.states[at + 1:]))

    def test_odd_states(self):
        for odd in ODD:
            self.assertFalse(self.holds(odd))

    def test_crossing(self):
        self.assertFalse(self.holds(self.states, "judge"))

    def test_doubles(self):
        program = program_of("main a:name w:worth", "near last w a", "twice 2", "cut rounds 4 3")
        states = starts(program) + links(program, "w", starts(program)[0])
        self.assertFalse(self.holds(states, program=program))
        self.assertFalse(self.holds(starts(program), program=program))
        alone = program_of("main a:name w:worth", "twice 2", "cut throw")
        self.assertFalse(self.holds(starts(alone), program=alone))
        whole = program_of("main a:name w:worth", "twice 2", "cut rounds 4 2,3")
        self.assertTrue(self.holds(starts(whole), program=whole))

    def test_a_closed_list_with_states_that_cannot_be_reached(self):
        program = program_of("main a:name b:name w:worth", "near last w b", "near last w a", "cut mark 2 1 b")
        closed = starts(program)
        state = (1, (), (), ("b",), ("<",))
        self.assertFalse(crosses(program, state, "learn"))
        self.assertFalse(self.holds(closed + [state] + links(program, "w", state), program=program))

    def test_no_start(self):
        program = program_of("main a:name k:x/y w:worth", "near last w a", "keep is k x", "keep is k y", "cut throw")
        self.assertTrue(self.holds([], program=program))
        self.assertFalse(self.holds([(0, ("x",), ("x",), ("a", "k"), (">",))], program=program))
        self.assertEqual(leak(program, "w", "learn").states, [])


if __name__ == "__main__":
    unittest.main()
