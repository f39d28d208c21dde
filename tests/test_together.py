"""What the parts of the package tell of the same programs agrees, also with what tables show."""

import itertools
import random
import unittest

import naive
from bothlots.behind import least_moves, movable, moved
from bothlots.chains import links, starts
from bothlots.errors import InvalidRow
from bothlots.growth import grown
from bothlots.hangs import leak
from bothlots.programs import Program
from bothlots.runs import Run
from bothlots.tables import Setting, Tables
from samples import drawn_tables

LOTS = ("learn", "judge")


def program_of(*lines):
    return Program.read("".join(line + "\n" for line in lines))


class TwoWorthsTest(unittest.TestCase):
    """Each worth hangs by its own steps."""

    head = "main a:name b:name t:tick v:worth w:worth"
    # Steps ahead of the cut, and the cuts.
    steps = ("near last v a", "all w b", "sort t", "near next w a", "all v t", "near last w t")
    cuts = ("cut before t 2", "cut mark 2 1 a", "cut share 1 2", "cut throw")

    def alone(self, program, worth):
        """The program without the steps of the other worth, and the index of each step of it in the program."""
        staying = [at for at, step in enumerate(program.steps) if step[0] not in ("near", "all") or step[1] == worth]
        steps = [program.steps[at] for at in staying]
        return Program(program.main, steps), staying

    def programs(self):
        for cut in self.cuts:
            for many in (3, 4, 6):
                for chosen in itertools.combinations(self.steps, many):
                    yield program_of(self.head, *chosen, cut, "all v b", "near last w")

    def test_leaks_and_states(self):
        for program in self.programs():
            for worth in ("v", "w"):
                alone, places = self.alone(program, worth)
                for lot in LOTS:
                    paper, other = leak(program, worth, lot), leak(alone, worth, lot)
                    self.assertTrue(paper.holds())
                    self.assertEqual(bool(paper), bool(other))
                    if paper:
                        self.assertEqual(len(paper.way), len(other.way))
                    else:
                        # The states are the same ones but for the indexes of the steps.
                        self.assertEqual(paper.states, [(places[state[0]], *state[1:]) for state in other.states])

    def test_links_by_own_steps(self):
        for program in itertools.islice(self.programs(), 0, None, 5):
            for worth in ("v", "w"):
                level = starts(program)
                for _ in range(3):
                    level = [new for state in level for new in links(program, worth, state)][:20]
                    self.assertEqual({program.step(new[0])[1] for new in level} - {worth}, set())

    def test_runs(self):
        chance = random.Random(5)
        for program in self.programs():
            tables, setting = drawn_tables(program, chance)
            run = Run(program, tables, setting)
            for worth in ("v", "w"):
                alone, _ = self.alone(program, worth)
                other = Run(alone, Tables(alone, tables.rows()), setting)
                self.assertEqual(run.rows(), other.rows())
                for number in range(len(run)):
                    self.assertEqual(run.hangs_on(number, worth), other.hangs_on(number, worth))

    def test_least_moves(self):
        for program in self.programs():
            for worth in ("v", "w"):
                alone, places = self.alone(program, worth)
                for lot in (None, *LOTS):
                    expected = [tuple(places[at] for at in least) for least in least_moves(alone, worth, lot=lot)]
                    self.assertEqual(least_moves(program, worth, lot=lot), expected)

    def test_moving_the_other_worth_does_not_matter(self):
        for program in itertools.islice(self.programs(), 0, None, 3):
            for worth, other in (("v", "w"), ("w", "v")):
                steps = [at for at in movable(program) if program.step(at)[1] == other]
                for lot in LOTS:
                    self.assertEqual(bool(leak(moved(program, *steps), worth, lot)), bool(leak(program, worth, lot)))


class TwoTicksTest(unittest.TestCase):
    """One or two sorts, in each order, a cut before one of them or by the order of the rows."""

    head = "main a:name t:tick u:tick w:worth"
    sorts = ([], ["sort t"], ["sort u"], ["sort t", "sort u"], ["sort u", "sort t"])
    mixes = (["near last w"], ["near next w a"], ["near last w t"], ["near next w u"], ["all w t"], ["near last w a", "all w u"],
             ["near next w a", "near last w t"])
    cuts = ("cut before t 2", "cut before u 2", "cut share 1 2", "cut throw")

    def programs(self):
        for sorts in self.sorts:
            for mixes in self.mixes:
                for cut in self.cuts:
                    yield program_of(self.head, *sorts, *mixes, cut)
                    for at in range(1, len(sorts) + 1):
                        yield program_of(self.head, *sorts[:at], *mixes, *sorts[at:], cut)

    def test_states(self):
        for program in itertools.islice(self.programs(), 0, None, 3):
            for lot in LOTS:
                self.assertEqual(bool(leak(program, "w", lot)), naive.shortest(program, "w", lot) is not None)

    def test_tables(self):
        """A leak of any small table is told by the paper, and the paper shows one where it tells so."""
        rows = list(itertools.product("ab", (1, 2), (1, 2, 3)))
        small = list(itertools.product(rows, repeat=2)) + random.Random(3).sample(list(itertools.product(rows, repeat=3)), 60)
        for program in itertools.islice(self.programs(), 0, None, 4):
            told = {lot: bool(leak(program, "w", lot)) for lot in LOTS}
            for lot in LOTS:
                self.assertTrue(leak(program, "w", lot).holds())
            for chosen in small:
                run = Run(program, Tables(program, list(chosen)), Setting(throws=[0, 1, 1]))
                for lot in LOTS:
                    if not told[lot]:
                        self.assertIsNone(run.leak("w", lot))

    def test_newcomers(self):
        """A row of some small tables moves exactly if the program moves."""
        rows = list(itertools.product("ab", (1, 2), (1, 2)))
        for sorts in self.sorts:
            for cut in ("cut before t 2", "cut before u 2", "cut share 2 3", "cut throw", "cut groups 2 1 a", "cut rounds 2 1"):
                program = program_of(self.head, *sorts, cut)
                for growth in ("end", "late", "any"):
                    found = any(self.movers(program, growth, rows))
                    with self.subTest(sorts=sorts, cut=cut, growth=growth):
                        self.assertEqual(found, bool(grown(program, growth)))

    def movers(self, program, growth, rows):
        for chosen in itertools.product(rows, repeat=2):
            tables = Tables(program, list(chosen))
            for newcomer in rows + [("c", 0, 3), ("c", 3, 0), ("c", 3, 3), ("c", 0, 0)]:
                if growth == "late" and any(newcomer[at] < row[at] for at in (1, 2) for row in chosen):
                    continue
                for place in (0, 1, 2) if growth == "any" else (2,):
                    longer = tables.with_row(newcomer, at=place)
                    for throws in ((0, 0, 1), (1, 0, 0)):
                        setting = Setting(throws=throws)
                        yield naive.movers(lambda told: Run(program, told, setting), tables, longer, place) != []

    def test_least_moves(self):
        for program in itertools.islice(self.programs(), 0, None, 7):
            for lots in (LOTS[:1], LOTS[1:], LOTS):
                found = least_moves(program, "w", lot=lots[0] if len(lots) == 1 else None)
                self.assertEqual(found, naive.least_moves(program, "w", lots))


class MovedTest(unittest.TestCase):
    def test_each_lot_by_itself(self):
        """With all steps moved nothing hangs on a row of the other lot, and the rows are the same ones."""
        for program in naive.programs():
            chance = random.Random(1)
            worths = program.columns_of("worth")
            found = moved(program, *movable(program))
            self.assertEqual(movable(found), [])
            for _ in range(5):
                tables, setting = drawn_tables(program, chance)
                other = Tables(found, tables.rows(), {name: tables.side(name) for name, _, _ in program.sides})
                run = Run(found, other, setting)
                self.assertEqual(run.at_cut(), Run(program, tables, setting).at_cut())
                for worth in worths:
                    for number, (own, lot) in enumerate(run.rows()):
                        in_lot = {source for source, its_lot in run.at_cut() if its_lot == lot}
                        self.assertLessEqual(set(run.hangs_on(number, worth)), in_lot)


class KeysTest(unittest.TestCase):
    def test_newcomers_with_an_equal_key(self):
        program = program_of("main a:name t:tick", "key a", "sort t", "cut throw")
        paper = grown(program, "end")
        with self.assertRaises(InvalidRow):
            paper.tables.with_row((paper.tables.rows()[0][0], -9))
        self.assertTrue(paper.tables.with_row(paper.newcomer, at=paper.place))


if __name__ == "__main__":
    unittest.main()
