"""Many programs and tables, drawn by chance from fixed seeds, against the document's plain words."""

import itertools
import random
import unittest

import naive
from bothlots.chains import crosses, links, starts
from bothlots.hangs import leak
from bothlots.programs import Program
from bothlots.rules import last_looks, looks
from bothlots.runs import Run
from bothlots.touches import split
from samples import drawn_program, drawn_tables

SEEDS = range(150)
LOTS = ("learn", "judge")


def things_of(program):
    names = program.columns_of("name")
    return [thing for many in (1, 2, 3) for thing in itertools.combinations(names, many)]


class ByChanceTest(unittest.TestCase):
    @classmethod
    def setUpClass(cls):
        cls.programs = [(seed, drawn_program(random.Random(seed))) for seed in SEEDS]

    def test_the_drawn_ones_are_of_many_kinds(self):
        words = {step[0] for _, program in self.programs for step in program.steps}
        self.assertEqual(words, {"keep", "join", "left", "sort", "once", "near", "all", "twice", "fan", "cut"})
        cuts = {program.step(program.cut_at)[1] for _, program in self.programs}
        self.assertEqual(cuts, {"rounds", "throw", "mark", "before", "share", "groups"})
        self.assertTrue(any(program.unique for _, program in self.programs))

    def test_texts(self):
        for seed, program in self.programs:
            with self.subTest(seed=seed):
                self.assertEqual(Program.read(program.text()), program)

    def test_looks(self):
        for seed, program in self.programs:
            with self.subTest(seed=seed):
                self.assertEqual(sorted(looks(program), key=repr), sorted(naive.looks(program), key=repr))
                self.assertEqual(sorted(last_looks(program), key=repr), sorted(naive.last_looks(program), key=repr))
                self.assertEqual(starts(program), naive.starts(program))

    def test_things(self):
        for seed, program in self.programs:
            for thing in things_of(program):
                with self.subTest(seed=seed, thing=thing):
                    paper = split(program, thing)
                    self.assertTrue(paper.holds())
                    self.assertEqual(bool(paper), naive.splits(program, thing))

    def test_worths(self):
        for seed, program in self.programs:
            (worth,) = program.columns_of("worth")
            for lot in LOTS:
                with self.subTest(seed=seed, lot=lot):
                    paper = leak(program, worth, lot)
                    self.assertTrue(paper.holds())
                    states = paper.way if paper else paper.states
                    chosen = states[::1 + len(states) // 5]
                    for state in chosen:
                        self.assertEqual(links(program, worth, state), naive.links(program, worth, state))
                        self.assertEqual(crosses(program, state, lot), naive.crosses(program, state, lot))

    def test_tables(self):
        """What a closed list tells holds on any tables."""
        for seed, program in self.programs:
            chance = random.Random(seed)
            (worth,) = program.columns_of("worth")
            whole = [thing for thing in things_of(program) if not split(program, thing)]
            tight = [lot for lot in LOTS if not leak(program, worth, lot)]
            for _ in range(12 if whole or tight else 0):
                run = Run(program, *drawn_tables(program, chance))
                with self.subTest(seed=seed):
                    self.assertEqual([run.alike(thing) for thing in whole], [None] * len(whole))
                    self.assertEqual([run.leak(worth, lot) for lot in tight], [None] * len(tight))


if __name__ == "__main__":
    unittest.main()
