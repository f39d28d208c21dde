"""Papers, and whether a program splits a thing."""

import itertools
import random
import unittest

import naive
from bothlots.errors import InvalidThing, OtherProgram
from bothlots.papers import Paper
from bothlots.programs import Program
from bothlots.rules import forced, last_looks, parts
from bothlots.runs import Run
from bothlots.tables import Setting, Tables
from bothlots.touches import Split, Whole, split
from samples import drawn_tables

ODD = (None, True, False, 0, 7, -1, "", "split", (), [], (1,), ["a"], ((),), [[], (1, [2])], ("own",))


def program_of(*lines):
    return Program.read("".join(line + "\n" for line in lines))


def things_of(program):
    names = program.columns_of("name")
    return [thing for many in (1, 2, 3) for thing in itertools.permutations(names, many)]


# Programs, with some things that they split and some that they do not.
CASES = (
    (["main a:name b:name", "cut throw"], [("a",), ("b", "a")], []),
    (["main a:name b:name", "cut rounds 3 1"], [("a",), ("a", "b")], []),
    (["main a:name b:name", "key a", "cut throw"], [("b",)], [("a",), ("b", "a")]),
    (["main a:name b:name", "key a b", "cut rounds 2 1"], [("a",), ("b",)], [("a", "b")]),
    (["main a:name b:name", "key a", "twice 2", "cut throw"], [("a",), ("b", "a")], []),
    (["main a:name b:name", "key a", "twice 2", "cut rounds 4 3"], [("a",), ("b",)], []),
    (["main a:name b:name", "key a", "twice 2", "cut rounds 4 2,3"], [("b",)], [("a",)]),
    (["main a:name b:name", "key a", "twice 2", "cut share 2 3"], [("a",), ("b",)], []),
    (["main a:name b:name", "once a", "cut share 2 3"], [("b",)], [("a",)]),
    (["main a:name b:name", "cut share 1 12", "once a"], [("a",), ("b",)], []),
    (["main a:name b:name", "cut mark 3 1 a"], [("b",)], [("a",), ("a", "b")]),
    (["main a:name b:name", "cut mark 5 0,4 a b"], [("b",), ("a",)], [("a", "b")]),
    (["main a:name b:name", "cut groups 3 1 a"], [("b",)], [("a",), ("b", "a")]),
    (["main a:name b:name", "key b", "cut groups 4 0,2 a"], [], [("a",), ("b",)]),
    (["main a:name t:tick", "cut before t 7"], [("a",)], []),
    (["main a:name t:tick", "key a", "twice 3", "cut before t 7"], [], [("a",)]),
    (["main a:name t:tick", "once a t", "sort t", "cut before t -3"], [("a",)], []),
    (["main a:name k:x/y", "cut mark 2 1 k"], [("a",)], []),
    (["main a:name k:x/y", "keep is k x", "cut mark 2 1 k"], [], [("a",)]),
    (["main a:name k:x/y", "keep is k x", "keep is k y", "cut throw"], [], [("a",)]),
    (["main a:name k:x/y", "key a k", "cut throw"], [("a",)], []),
    (["main a:name k:x/y", "key a k", "keep not is k y", "cut throw"], [], [("a",)]),
    (["main a:name b:name", "side s one h:name", "join s a", "cut mark 2 1 s.h"], [("b",)], [("a",), ("s.h",), ("a", "b")]),
    (["main a:name b:name", "side s one h:name", "left s a", "cut mark 2 1 s.h"], [("b",)], [("a",), ("s.h",)]),
    (["main a:name b:name", "side s one h:name", "left s a", "cut mark 2 1 a"], [("b",), ("s.h",)], [("a",), ("s.h", "a")]),
    (["main a:name", "side s one h:name", "left s a", "keep not has s", "cut throw"], [("a",)], [("s.h",), ("a", "s.h")]),
    (["main a:name b:name", "side s one h:name", "side r one o:name", "join s a", "left r s.h", "once b s.h", "cut throw"],
     [("a",), ("b",), ("r.o",), ("s.h",), ("b", "r.o")], [("b", "s.h"), ("a", "b"), ("a", "b", "r.o")]),
    (["main a:name b:name", "key a", "side f many p:name q:u/v", "fan f a", "cut mark 3 0 a"], [("b",), ("f.p",)], [("a",)]),
    (["main a:name b:name", "key a", "side f many p:name q:u/v", "fan f a", "cut mark 3 0 f.p"], [("a",), ("b",)],
     [("f.p",), ("a", "f.p")]),
    (["main a:name b:name", "key a", "side f many p:name q:u/v", "fan f a", "cut mark 3 0 f.q"], [("a",), ("f.p",)], []),
    (["main a:name b:name", "key a", "side f many q:u", "fan f a", "cut mark 3 0 f.q a"], [("b",)], [("a",)]),
    (["main a:name b:name", "key a", "side f many p:name", "fan f b", "cut groups 4 0,2 b f.p"], [("a",), ("b",), ("f.p",)],
     [("b", "f.p"), ("f.p", "a")]),
    (["main a:name b:name", "key a", "side f many p:name", "fan f b", "cut rounds 4 0,2"], [("a",), ("f.p", "a", "b")], []),
    (["main a:name b:name t:tick", "key t", "sort t", "twice 2", "twice 2", "cut share 1 12"], [("a",), ("a", "b")], []),
    (["main a:name t:tick u:tick k:x/y", "key t k", "sort t", "sort u", "cut groups 3 2 a k"], [("a",)], []),
)


class PaperTest(unittest.TestCase):
    program = Program([("a", "name")], [("cut", "throw")])

    def test_paper(self):
        paper = Paper(self.program)
        self.assertEqual((paper.basis, paper.told(), paper.holds(), repr(paper)), (self.program, "open", False, "Paper(open)"))
        self.assertIs(bool(paper), False)
        with self.assertRaises(AttributeError):
            paper.basis = None

    def test_classes(self):
        for kind, told, truth in ((Split, "split", True), (Whole, "whole", False)):
            paper = kind(self.program, ("a",), [], Setting()) if kind is Split else kind(self.program, ("a",), [])
            self.assertIsInstance(paper, Paper)
            self.assertEqual((paper.told(), repr(paper), paper.basis, paper.thing), (told, f"Paper({told})", self.program, ("a",)))
            self.assertEqual(paper.program, self.program)
            self.assertIs(bool(paper), truth)
            for name in ("told", "holds", "basis", "thing", "__bool__", "__repr__"):
                self.assertIn(name, vars(kind))
        self.assertIn("run", vars(Split))

    def test_new_lists(self):
        given = [(("x",), ("x",), ["a"]), [1, [2]], 3]
        whole = Whole(self.program, ("a",), given)
        given[1][1].append(5)
        given[0][2].clear()
        given.pop()
        self.assertEqual(whole.meets, [(("x",), ("x",), ["a"]), [1, [2]], 3])
        told = whole.meets
        told[1][1].append(6)
        told[0][2].append("b")
        told.clear()
        self.assertEqual(whole.meets, [(("x",), ("x",), ["a"]), [1, [2]], 3])
        tables = [[1], (2, [3])]
        paper = Split(self.program, ("a",), tables, Setting())
        tables[1][1].append(4)
        paper.tables[0].append(4)
        self.assertEqual(paper.tables, [[1], (2, [3])])

    def test_read_only(self):
        tables = Tables(self.program, [])
        setting = Setting()
        paper = Split(self.program, ("a",), tables, setting)
        self.assertEqual((paper.tables, paper.thing), (tables, ("a",)))
        self.assertIs(paper.setting, setting)
        for name in ("basis", "thing", "tables", "setting"):
            with self.assertRaises(AttributeError):
                setattr(paper, name, None)
        with self.assertRaises(AttributeError):
            Whole(self.program, ("a",), []).meets = []


class SplitTest(unittest.TestCase):
    def shows(self, program, thing):
        """A Split is run anew, and its two rows are found in the run."""
        paper = split(program, thing)
        self.assertEqual((type(paper), paper.told(), bool(paper), paper.holds()), (Split, "split", True, True))
        self.assertEqual((paper.basis, paper.thing), (program, thing))
        self.assertEqual((type(paper.tables), type(paper.setting)), (Tables, Setting))
        run = Run(program, paper.tables, paper.setting)
        self.assertEqual(paper.run().rows(), run.rows())
        one, other = run.alike(thing)
        self.assertEqual((run.rows()[one][1], run.rows()[other][1]), ("learn", "judge"))
        values = [[run.value(number, column) for column in thing] for number in (one, other)]
        self.assertEqual(values[0], values[1])
        self.assertNotIn(None, values[0])

    def closes(self, program, thing):
        """A Whole is gone through look by look."""
        paper = split(program, thing)
        self.assertEqual((type(paper), paper.told(), bool(paper), paper.holds()), (Whole, "whole", False, True))
        self.assertIs(type(paper.meets), list)
        for item in paper.meets:
            self.assertEqual((type(item), len(item), type(item[2])), (tuple, 3, tuple))
        for look in naive.last_looks(program):
            for other in naive.last_looks(program):
                self.meets(program, thing, look, other, paper.meets)

    def meets(self, program, thing, look, other, meets):
        columns = naive.forced(program, look, other, thing)
        rows = [dict(zip(naive.signs(program), one)) for one in (look, other)]
        lacking = any(row.get(column.split(".")[0]) == "no" for row in rows for column in thing if "." in column)
        if columns is None or lacking:
            return
        found = [agreed for one, two, agreed in meets if (one, two) == (look, other)]
        self.assertTrue(any(set(agreed) <= set(columns) and not naive.parts(program, agreed) for agreed in found))

    def test_cases(self):
        for lines, splits, wholes in CASES:
            program = program_of(*lines)
            for thing in splits:
                with self.subTest(lines=lines, thing=thing):
                    self.shows(program, thing)
            for thing in wholes:
                with self.subTest(lines=lines, thing=thing):
                    self.closes(program, thing)

    def test_against_the_plain_words(self):
        for program in [program_of(*lines) for lines, _, _ in CASES] + naive.programs():
            for thing in things_of(program):
                with self.subTest(program=program.text(), thing=thing):
                    if naive.splits(program, thing):
                        self.shows(program, thing)
                    else:
                        self.closes(program, thing)

    def test_example(self):
        program = Program([("person", "name"), ("photo", "name")], [("twice", 2), ("cut", "rounds", 4, (3,))])
        self.assertEqual(split(program, ("person",)).told(), "split")

    def test_a_whole_is_so_on_any_tables(self):
        chance = random.Random(5)
        for program in naive.programs() + [program_of(*lines) for lines, _, _ in CASES]:
            things = [thing for thing in things_of(program) if not split(program, thing)]
            for _ in range(20 if things else 0):
                run = Run(program, *drawn_tables(program, chance))
                for thing in things:
                    self.assertIsNone(run.alike(thing))

    def test_equal_calls(self):
        for lines, splits, wholes in CASES[:12]:
            program = program_of(*lines)
            for thing in splits:
                self.assertEqual(split(program, thing).tables, split(program_of(*lines), thing).tables)
            for thing in wholes:
                self.assertEqual(split(program, thing).meets, split(program_of(*lines), thing).meets)

    def test_invalid_things(self):
        program = program_of("main a:name t:tick k:x/y w:worth", "side s one h:name q:u", "side f many p:name", "join s a",
                             "cut throw")
        wrong = [odd for odd in ODD] + [("a", "a"), ("t",), ("k",), ("w",), ("f.p",), ("s.q",), ["a"], "a", ("a", "s.h", "own"),
                                        ("a", "s.h", "a", "s.h"), ("s",), ("a", None), ("a", ["s.h"]), (("a",),)]
        for thing in wrong:
            with self.subTest(thing=thing), self.assertRaises(InvalidThing) as caught:
                split(program, thing)
            self.assertEqual((type(caught.exception.given), caught.exception.given), (type(thing), thing))
        four = program_of("main a:name b:name c:name d:name", "cut throw")
        split(four, ("a", "c", "d"))
        with self.assertRaises(InvalidThing):
            split(four, ("a", "b", "c", "d"))


class BentSplitTest(unittest.TestCase):
    program = program_of("main a:name b:name", "cut throw")
    rows = [("x", "y"), ("x", "z"), ("y", "y")]

    def paper(self, rows=None, throws=(0, 1, 0), thing=("a",), program=None):
        tables = Tables(program or self.program, self.rows if rows is None else rows)
        return Split(self.program, thing, tables, Setting(throws=throws))

    def test_right(self):
        self.assertTrue(self.paper().holds())
        self.assertTrue(self.paper(thing=("b",), throws=(1, 0, 0)).holds())
        self.assertEqual(self.paper().run().rows(), [(0, "learn"), (2, "learn"), (1, "judge")])

    def test_wrong(self):
        self.assertFalse(self.paper(throws=(0, 0, 1)).holds())
        self.assertFalse(self.paper(throws=()).holds())
        self.assertFalse(self.paper(thing=("a", "b")).holds())
        self.assertFalse(self.paper([]).holds())
        self.assertFalse(self.paper(program=program_of("main a:name b:name", "cut throw", "twice 2")).holds())
        self.assertTrue(self.paper(program=program_of("main a:name b:name", "cut throw")).holds())

    def test_odd_tables(self):
        for odd in ODD + (self.program, Setting()):
            paper = Split(self.program, ("a",), odd, Setting())
            self.assertFalse(paper.holds())
            self.assertTrue(bool(paper))
            self.assertEqual(paper.told(), "split")
            with self.assertRaises(OtherProgram):
                paper.run()
        with self.assertRaises(OtherProgram):
            self.paper(program=program_of("main a:name b:name", "cut rounds 2 1")).run()

    def test_odd_values_are_told(self):
        for odd in ODD:
            told = Split(self.program, ("a",), odd, Setting()).tables
            self.assertEqual((type(told), told), (type(odd), odd))
            told = Whole(self.program, ("a",), odd).meets
            self.assertIn(told, (odd, list(odd) if isinstance(odd, tuple) else odd))


class BentWholeTest(unittest.TestCase):
    program = program_of("main a:name b:name k:x/y", "key a", "side s one h:name q:u/v", "left s b", "cut mark 2 1 a")

    def setUp(self):
        self.meets = split(self.program, ("a",)).meets

    def holds(self, meets, thing=("a",), program=None):
        return Whole(program or self.program, thing, meets).holds()

    def test_right(self):
        self.assertTrue(self.holds(self.meets))
        self.assertTrue(self.holds(tuple(self.meets)))
        self.assertTrue(self.holds(self.meets[::-1]))
        self.assertTrue(self.holds(self.meets + self.meets))
        self.assertTrue(self.holds([(look, other, ("a",)) for look, other, _ in self.meets]))
        self.assertTrue(self.holds([(look, other, ("a", "a", "own")) for look, other, _ in self.meets]))

    def test_one_left_out(self):
        # The key forces `own`, so each look meets itself alone.
        self.assertEqual([(look, other) for look, other, _ in self.meets], [(look, look) for look in last_looks(self.program)])
        for at in range(len(self.meets)):
            self.assertFalse(self.holds(self.meets[:at] + self.meets[at + 1:]))
        self.assertFalse(self.holds([]))

    def test_items_that_do_not_matter(self):
        look = last_looks(self.program)[0]
        other = last_looks(self.program)[1]
        extra = list(ODD) + [(look, other, ("a",)), (look, look, ["a"]), (look, look, ()), (look, look, ("pulse",)),
                             (look, look), (look, look, ("a",), 1), [look, look, ("a",)], (list(look), look, ("a",)),
                             (look, look, (1,)), (look, look, (["a"],)), (look, look, "a"), (look, look, None), ((), (), ("a",))]
        for item in extra:
            with self.subTest(item=item):
                self.assertTrue(self.holds([item] + self.meets))
                self.assertTrue(self.holds(self.meets + [item]))
        self.assertTrue(self.holds(extra + self.meets))

    def test_one_bent(self):
        for at, (look, other, agreed) in enumerate(self.meets):
            bent = [(look, other, ()), (look, other, ("b",)), (look, other, ("k", "s.q")), (look, other, ("a", "pulse")),
                    (look, other, ["a"]), [look, other, ("a",)], (look, other), (look, other, ("a",), ()), (list(look), other, ("a",)),
                    (look, look[:-1], ("a",)), (look, other, ("a", None)), (look, other, ("a", 1)), (look, other, "a"), None, 5,
                    (other, ("x", "no", "u"), ("a",)), (look, other, ("a", ("b",)))]
            for item in bent:
                with self.subTest(item=item):
                    self.assertFalse(self.holds(self.meets[:at] + [item] + self.meets[at + 1:]))

    def test_odd_meets(self):
        for odd in ODD:
            self.assertFalse(self.holds(odd))

    def test_not_forced_or_parted(self):
        # A thing of b does not force a, and without a the mark parts.
        self.assertFalse(self.holds(self.meets, ("b",)))
        looks = last_looks(self.program)
        everything = [(look, other, agreed) for look in looks for other in looks for agreed in (("a",), ("b",), ("own",), ("a", "b"))]
        self.assertFalse(self.holds(everything, ("b",)))
        self.assertTrue(self.holds(everything, ("a",)))
        self.assertTrue(self.holds(everything, ("a", "b")))

    def test_both_orders_and_equal_looks(self):
        program = program_of("main a:name k:x/y", "cut mark 2 1 a")
        meets = [(one, two, ("a",)) for one in (("x",), ("y",)) for two in (("x",), ("y",))]
        self.assertTrue(self.holds(meets, program=program))
        self.assertEqual(sorted((one, two) for one, two, _ in split(program, ("a",)).meets), [item[:2] for item in meets])
        for at in range(4):
            self.assertFalse(self.holds(meets[:at] + meets[at + 1:], program=program))

    def test_lacking_partners_are_not_needed(self):
        program = program_of("main a:name", "side s one h:name", "left s a", "cut mark 2 1 a")
        self.assertTrue(self.holds([(("yes",), ("yes",), ("a",))], ("s.h", "a"), program))
        self.assertFalse(self.holds([(("yes",), ("yes",), ("a",))], ("a",), program))
        self.assertTrue(self.holds([(("yes",), ("yes",), ("a",)), (("no",), ("no",), ("a",))], ("a",), program))

    def test_no_last_look(self):
        program = program_of("main a:name k:x/y", "keep is k x", "keep is k y", "cut throw")
        self.assertTrue(self.holds([], program=program))
        self.assertEqual(split(program, ("a",)).meets, [])
        self.assertTrue(self.holds([5, None], program=program))
        self.assertFalse(self.holds(5, program=program))

    def test_against_forced_and_parts(self):
        for look, other, agreed in self.meets:
            self.assertLessEqual(set(agreed), set(forced(self.program, look, other, ("a",))))
            self.assertFalse(parts(self.program, list(agreed)))


if __name__ == "__main__":
    unittest.main()
