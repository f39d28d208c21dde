"""Columns that are settled by things, and the rows of a run that hang together by things."""

import itertools
import random
import unittest

import naive
from bothlots.errors import InvalidThing, UnknownRow
from bothlots.keys import chain, parting, settled
from bothlots.programs import Program
from bothlots.runs import Run
from bothlots.tables import Tables
from bothlots.touches import split
from samples import drawn_program, drawn_tables

ODD = (None, True, False, 0, 7, -1, "", "a", "own", (), [], (1,), ["a"], [("a",)], (("a",),), ("own",), [[], (1, [2])],
       ("a", "a"), ("w",), ("t",), ("k",), ("s",), ("h",), ("s.k",), ("a", None), ("a", ["b"]))


def program_of(*lines):
    return Program.read("".join(line + "\n" for line in lines))


def things_of(program):
    names = program.columns_of("name")
    return [thing for many in (1, 2, 3) for thing in itertools.permutations(names, many)]


def alike_at_cut(run, things):
    """A function of two rows of the main table: whether they have rows at the cut that are alike in a thing."""
    values = {thing: run.values_at_cut(thing) for thing in things}

    def alike(one, other):
        for thing in things:
            for source, cells in values[thing]:
                if source == one and None not in cells and (other, cells) in values[thing]:
                    return True
        return False

    return alike


SIDE = ["main a:name b:name t:tick k:x/y w:worth", "side s one h:name k:u/v"]

# Programs with things and the columns that are settled by all of them.
CASES = (
    (["main a:name b:name", "cut throw"], [("a",)], "a"),
    (["main a:name b:name", "cut throw"], [("b", "a")], "a b"),
    (["main a:name b:name", "cut throw"], [("a",), ("b",)], ""),
    (["main a:name b:name", "cut throw"], [("a", "b"), ("b",)], "b"),
    (["main a:name b:name t:tick", "key a", "cut throw"], [("a",)], "a b t"),
    (["main a:name b:name t:tick", "key a t", "cut throw"], [("a",)], "a"),
    (["main a:name b:name t:tick", "once b a", "cut throw"], [("a", "b")], "a b t"),
    (["main a:name b:name t:tick", "once b a", "cut throw"], [("a", "b"), ("b",)], "b"),
    (["main a:name b:name", "cut throw", "once a"], [("a",)], "a"),
    (["main a:name k:x", "cut throw"], [("a",)], "a k"),
    (["main a:name k:x/y", "cut throw"], [("a",)], "a"),
    (["main a:name k:x/y", "keep is k y", "cut throw"], [("a",)], "a k"),
    (["main a:name k:x/y", "key a k", "keep is k y", "cut throw"], [("a",)], "a k"),
    (["main a:name b:name k:x/y", "key a k", "keep is k y", "cut throw"], [("a",)], "a b k"),
    (["main a:name b:name k:x/y", "key a k", "cut throw"], [("a",)], "a"),
    ([*SIDE, "join s a", "cut throw"], [("a",)], "a s.h s.k"),
    ([*SIDE, "join s a", "cut throw"], [("b",)], "b"),
    ([*SIDE, "join s a", "cut throw"], [("s.h",)], "s.h"),
    ([*SIDE, "left s a", "cut throw"], [("a",)], "a s.h s.k"),
    ([*SIDE, "left s a", "cut throw"], [("s.h",)], "s.h"),
    ([*SIDE, "left s a", "keep not has s", "cut throw"], [("b",)], "b s.h s.k"),
    ([*SIDE, "left s a", "keep not has s", "cut throw"], [("s.h",)], "a b k s.h s.k t"),
    ([*SIDE, "left s a", "keep not has s", "cut throw"], [("s.h", "a"), ("b",)], "b s.h s.k"),
    ([*SIDE, "left s a", "keep is s.k u", "cut throw"], [("b",)], "b s.k"),
    ([*SIDE, "left s b", "once s.h a", "cut throw"], [("a",)], "a"),
    ([*SIDE, "left s b", "once s.h a", "cut throw"], [("a", "b")], "a b k s.h s.k t"),
    ([*SIDE, "left s b", "once s.h a", "keep not has s", "cut throw"], [("a",)], "a b k s.h s.k t"),
    (["main a:name b:name", "side s one h:name", "side r one o:name", "join s a", "left r s.h", "cut throw"], [("s.h",)], "r.o s.h"),
    (["main a:name b:name", "side s one h:name", "side r one o:name", "join s a", "left r s.h", "cut throw"],
     [("a", "b"), ("s.h", "r.o"), ("s.h",)], "r.o s.h"),
    (["main a:name", "side f many p:name q:x/y o:u", "fan f a", "cut throw"], [("a",)], "a f.o"),
    (["main a:name", "side f many p:name q:x/y o:u", "fan f a", "cut throw"], [("a", "f.p")], "a f.o f.p"),
    (["main a:name b:name", "key a", "side f many p:name", "fan f a", "cut throw"], [("a",)], "a b"),
    (["main a:name b:name", "key a", "side f many p:name", "fan f b", "twice 2", "cut throw"], [("f.p",)], "f.p"),
    (["main a:name b:name", "key a", "twice 3", "cut throw"], [("a",)], "a b"),
    (["main a:name k:x/y", "keep is k x", "keep is k y", "cut throw"], [("a",)], "a k"),
    (["main a:name b:name k:x/y t:tick w:worth", "keep is k x", "keep is k y", "cut throw"], [("a",), ("b",)], "a b k t"),
)


class SettledTest(unittest.TestCase):
    def test_cases(self):
        for lines, things, columns in CASES:
            program = program_of(*lines)
            with self.subTest(lines=lines, things=things):
                self.assertEqual(settled(program, *things), columns.split())
                self.assertEqual(settled(program, *things[::-1], *things), columns.split())

    def test_marks(self):
        """A mark of columns splits the thing exactly if not all of them are settled."""
        for lines, _, _ in CASES:
            program = program_of(*lines)
            for thing in things_of(program)[:7]:
                found = settled(program, thing)
                for many in (1, 2):
                    for columns in itertools.combinations(program.columns(), many):
                        steps = [*program.steps[:program.cut_at], ("cut", "mark", columns, 3, (1,))]
                        marked = Program(program.main, steps, sides=program.sides, unique=program.unique)
                        with self.subTest(lines=lines, thing=thing, columns=columns):
                            self.assertEqual(not split(marked, thing), set(columns) <= set(found))

    def test_wrong_things(self):
        program = program_of(*SIDE, "join s b", "cut throw")
        for value in ODD:
            for things in ((value,), (("a",), value), (value, ("zz",)), (("b", "a"), ("s.h",), value, 7)):
                with self.subTest(things=things), self.assertRaises(InvalidThing) as caught:
                    settled(program, *things)
                self.assertEqual((caught.exception.given, caught.exception.code), (value, "InvalidThing"))
        with self.assertRaises(InvalidThing) as caught:
            settled(program)
        self.assertIsNone(caught.exception.given)

    def test_returned_lists_are_new(self):
        program = program_of(*SIDE, "join s a", "cut throw")
        found = settled(program, ("a",))
        found.append("b")
        self.assertEqual(settled(program, ("a",)), ["a", "s.h", "s.k"])

    def test_by_chance(self):
        for seed in range(80):
            program = drawn_program(random.Random(seed))
            things = things_of(program)
            for chosen in [things[:1], things[-1:], things[:2], things[-3:]]:
                with self.subTest(seed=seed, things=chosen):
                    self.assertEqual(settled(program, *chosen), naive.settled(program, *chosen))


class PartingTest(unittest.TestCase):
    program = program_of("main a:name b:name k:x/y", "side s one h:name o:name", "side f many p:name", "left s b",
                         "keep is k x", "cut throw")
    sides = {"s": [("one", "hh", "oo"), ("two", "hh", "uu"), ("far", "gg", "uu")]}

    def run_of(self, *rows):
        return Run(self.program, Tables(self.program, [(*row.split(), "x")[:3] for row in rows], self.sides))

    def test_by_a_column(self):
        run = self.run_of("a one", "b two", "a two", "c no", "b far", "d one")
        self.assertEqual(parting(run, ("a",)), [[0, 2], [1, 4], [3], [5]])
        self.assertEqual(parting(run, ("b",)), [[0, 5], [1, 2], [3], [4]])
        self.assertEqual(parting(run, ("a", "b")), [[0], [1], [2], [3], [4], [5]])
        self.assertEqual(parting(run, ("s.h",)), [[0, 1, 2, 5], [3], [4]])
        self.assertEqual(parting(run, ("s.h", "s.o")), [[0, 5], [1, 2], [3], [4]])

    def test_by_several_things(self):
        run = self.run_of("a one", "b two", "a two", "c no", "b far", "d one")
        self.assertEqual(parting(run, ("a",), ("b",)), [[0, 1, 2, 4, 5], [3]])
        self.assertEqual(parting(run, ("b",), ("a",), ("b",)), [[0, 1, 2, 4, 5], [3]])

    def test_none_is_not_alike(self):
        run = self.run_of("a no", "b no", "c nope", "a one")
        self.assertEqual(parting(run, ("s.h",)), [[0], [1], [2], [3]])
        self.assertEqual(parting(run, ("b", "s.h")), [[0], [1], [2], [3]])
        self.assertEqual(parting(run, ("s.h",), ("a",)), [[0, 3], [1], [2]])

    def test_equal_values_of_unlike_things(self):
        run = self.run_of("a b", "b a", "one hh", "hh one")
        self.assertEqual(parting(run, ("a",), ("b",)), [[0], [1], [2], [3]])
        self.assertEqual(parting(run, ("a", "b"), ("b", "a")), [[0], [1], [2], [3]])

    def test_rows_without_a_row_at_the_cut(self):
        run = self.run_of("a one", "a two y", "b two", "a far", "c one y")
        self.assertEqual(parting(run, ("a",)), [[0, 3], [2]])
        self.assertEqual(parting(run, ("b",)), [[0], [2], [3]])
        self.assertEqual(parting(self.run_of(), ("a",)), [])
        self.assertEqual(parting(self.run_of("a one y"), ("a",)), [])

    def test_rows_of_the_cut_alone(self):
        """What stands behind the cut does not matter, nor do lots."""
        program = program_of("main a:name b:name", "once a", "cut rounds 2 1", "once b")
        run = Run(program, Tables(program, [("a", "x"), ("b", "x"), ("c", "x"), ("a", "y"), ("d", "y")]))
        self.assertEqual(parting(run, ("b",)), [[0, 1, 2], [4]])
        self.assertEqual(chain(run, 2, 0, ("b",)), [2, 0])
        self.assertIsNone(chain(run, 3, 3, ("b",)))
        self.assertIsNone(chain(run, 3, 4, ("b",)))

    def test_copies_link_their_partners(self):
        program = program_of("main a:name", "side f many p:name", "fan f a", "twice 2", "cut throw")
        sides = {"f": [("a", "x"), ("a", "y"), ("b", "y"), ("c", "z"), ("b", "z"), ("e", "x")]}
        run = Run(program, Tables(program, [("a",), ("b",), ("c",), ("d",), ("e",)], sides))
        self.assertEqual(parting(run, ("f.p",)), [[0, 1, 2, 4]])
        self.assertEqual(chain(run, 4, 2, ("f.p",)), [4, 0, 1, 2])
        self.assertEqual(chain(run, 3, 3, ("f.p",)), None)
        self.assertEqual(parting(run, ("f.p", "a")), [[0], [1], [2], [4]])

    def test_wrong_things(self):
        program = program_of(*SIDE, "join s b", "cut throw")
        run = Run(program, Tables(program, []))
        for value in ODD:
            for things in ((value,), (("a",), value), (value, ("zz",))):
                with self.subTest(things=things), self.assertRaises(InvalidThing) as caught:
                    parting(run, *things)
                self.assertEqual(caught.exception.given, value)
        with self.assertRaises(InvalidThing) as caught:
            parting(run)
        self.assertIsNone(caught.exception.given)


class ChainTest(unittest.TestCase):
    program = program_of("main a:name b:name c:name", "cut throw")

    def run_of(self, *rows):
        return Run(self.program, Tables(self.program, [tuple(row.split()) for row in rows]))

    def test_neighbours(self):
        run = self.run_of("a x p", "a y q", "b y r", "c z r")
        self.assertEqual(chain(run, 0, 1, ("a",)), [0, 1])
        self.assertEqual(chain(run, 0, 2, ("a",), ("b",)), [0, 1, 2])
        self.assertEqual(chain(run, 3, 0, ("a",), ("b",), ("c",)), [3, 2, 1, 0])
        self.assertIsNone(chain(run, 0, 2, ("a",)))
        self.assertIsNone(chain(run, 0, 3, ("a", "b"), ("b",)))

    def test_one_and_the_same_row(self):
        run = self.run_of("a x p", "a x p")
        for own in (0, 1):
            self.assertEqual(chain(run, own, own, ("a",)), [own])
        program = program_of("main a:name k:x/y", "keep is k x", "cut throw")
        run = Run(program, Tables(program, [("a", "x"), ("a", "y"), ("a", "x")]))
        self.assertEqual([chain(run, own, own, ("a",)) for own in range(3)], [[0], None, [2]])
        self.assertEqual([chain(run, 0, own, ("a",)) for own in range(3)], [[0], None, [0, 2]])
        self.assertEqual([chain(run, 1, own, ("a",)) for own in range(3)], [None, None, None])

    def test_none_links_no_row_with_another_one(self):
        program = program_of("main a:name", "side s one h:name", "left s a", "cut throw")
        run = Run(program, Tables(program, [("a",), ("b",)]))
        self.assertEqual([chain(run, 0, own, ("s.h",)) for own in (0, 1)], [[0], None])

    def test_of_several_shortest_the_least_one(self):
        run = self.run_of("z x p", "c y q", "a x q", "b x q", "a y r", "b y r")
        things = [("a",), ("b",), ("c",)]
        self.assertEqual(chain(run, 0, 1, *things), [0, 2, 1])
        self.assertEqual(chain(run, 0, 4, *things), [0, 2, 4])
        self.assertEqual(chain(run, 0, 5, *things), [0, 3, 5])
        self.assertEqual(chain(run, 1, 0, *things), [1, 2, 0])
        self.assertEqual(chain(run, 0, 4, ("a",), ("b",)), [0, 2, 4])
        # A lesser row ahead is taken only if the list is as short by it.
        run = self.run_of("a x p", "b x q", "b y r", "a y s", "c y t")
        self.assertEqual(chain(run, 0, 4, ("a",), ("b",)), [0, 3, 4])

    def test_of_many_rows(self):
        rows = [f"{'abcdefghij'[at // 2]} {'klmnopqrst'[(at + 1) // 2]} p" for at in range(18)]
        run = self.run_of(*rows)
        self.assertEqual(chain(run, 0, 17, ("a",), ("b",)), list(range(18)))
        self.assertEqual(chain(run, 17, 0, ("b",), ("a",)), list(range(17, -1, -1)))
        self.assertEqual(parting(run, ("a",), ("b",)), [list(range(18))])
        self.assertEqual(chain(run, 3, 15, ("c",)), [3, 15])

    def test_wrong_rows_go_ahead_of_wrong_things(self):
        run = self.run_of("a x p", "a y q")
        for value in (None, True, False, 2, -1, 10 ** 14, "", "0", (), [], (0,), [0]):
            for one, other in ((value, 0), (0, value), (value, 9), (value, [1])):
                for things in ((("a",),), (), ("a",), (None, ("a",))):
                    with self.subTest(one=one, other=other, things=things), self.assertRaises(UnknownRow) as caught:
                        chain(run, one, other, *things)
                    self.assertEqual((caught.exception.number, caught.exception.code), (value, "UnknownRow"))
        for value in ODD:
            with self.assertRaises(InvalidThing) as caught:
                chain(run, 0, 1, ("a",), value, 7)
            self.assertEqual(caught.exception.given, value)
        with self.assertRaises(InvalidThing) as caught:
            chain(run, 0, 0)
        self.assertIsNone(caught.exception.given)


class ByChanceTest(unittest.TestCase):
    def test_runs(self):
        lengths = set()
        for seed in range(120):
            chance = random.Random(seed)
            program = drawn_program(chance)
            run = Run(program, *drawn_tables(program, chance))
            things = chance.sample(things_of(program), min(2, len(things_of(program))))
            alike = alike_at_cut(run, things)
            owns = sorted({own for own, _ in run.at_cut()})
            with self.subTest(seed=seed):
                self.assertEqual(parting(run, *things), naive.groups(owns, alike))
                for one in range(max(owns, default=-1) + 1):
                    for other in range(max(owns, default=-1) + 1):
                        found = chain(run, one, other, *things)
                        self.assertEqual(found, naive.chain(owns, alike, one, other))
                        lengths.add(0 if found is None else len(found))
        self.assertTrue({0, 1, 2, 3} <= lengths)


if __name__ == "__main__":
    unittest.main()
