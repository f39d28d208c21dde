"""What the parts of the package tell of the same programs agrees, also with what tables show."""

import itertools
import random
import unittest

import naive
from bothlots.behind import least_moves, movable, moved
from bothlots.chains import links, starts
from bothlots.desk import Desk
from bothlots.errors import InvalidRow, LotsError, Missing, NothingLeft
from bothlots.growth import grown
from bothlots.hangs import leak
from bothlots.keys import chain, parting
from bothlots.ledgers import Ledger
from bothlots.pages import read_page, write_page
from bothlots.programs import Program
from bothlots.runs import Run
from bothlots.shelves import Shelf
from bothlots.tables import Setting, Tables
from bothlots.touches import split
from samples import drawn_program, drawn_tables

LOTS = ("learn", "judge")


def program_of(*lines):
    return Program.read("".join(line + "\n" for line in lines))


class TwoWorthsTest(unittest.TestCase):
    """Each worth hangs by its own steps."""

    head = "main a:name b:name t:tick v:worth w:worth"
    # Steps ahead of the cut, and the cuts.
    steps = ("near last v a", "all w b", "sort t", "near next w a", "all v t", "near last w t")
    cuts = ("cut before t 2", "cut mark 2 1 a", "cut share 1 2", "cut throw")

    def alone(self, program, worth):
        """The program without the steps of the other worth, and the index of each step of it in the program."""
        staying = [at for at, step in enumerate(program.steps) if step[0] not in ("near", "all") or step[1] == worth]
        steps = [program.steps[at] for at in staying]
        return Program(program.main, steps), staying

    def programs(self):
        for cut in self.cuts:
            for many in (3, 4, 6):
                for chosen in itertools.combinations(self.steps, many):
                    yield program_of(self.head, *chosen, cut, "all v b", "near last w")

    def test_leaks_and_states(self):
        for program in self.programs():
            for worth in ("v", "w"):
                alone, places = self.alone(program, worth)
                for lot in LOTS:
                    paper, other = leak(program, worth, lot), leak(alone, worth, lot)
                    self.assertTrue(paper.holds())
                    self.assertEqual(bool(paper), bool(other))
                    if paper:
                        self.assertEqual(len(paper.way), len(other.way))
                    else:
                        # The states are the same ones but for the indexes of the steps.
                        self.assertEqual(paper.states, [(places[state[0]], *state[1:]) for state in other.states])

    def test_links_by_own_steps(self):
        for program in itertools.islice(self.programs(), 0, None, 5):
            for worth in ("v", "w"):
                level = starts(program)
                for _ in range(3):
                    level = [new for state in level for new in links(program, worth, state)][:20]
                    self.assertEqual({program.step(new[0])[1] for new in level} - {worth}, set())

    def test_runs(self):
        chance = random.Random(5)
        for program in self.programs():
            tables, setting = drawn_tables(program, chance)
            run = Run(program, tables, setting)
            for worth in ("v", "w"):
                alone, _ = self.alone(program, worth)
                other = Run(alone, Tables(alone, tables.rows()), setting)
                self.assertEqual(run.rows(), other.rows())
                for number in range(len(run)):
                    self.assertEqual(run.hangs_on(number, worth), other.hangs_on(number, worth))

    def test_least_moves(self):
        for program in self.programs():
            for worth in ("v", "w"):
                alone, places = self.alone(program, worth)
                for lot in (None, *LOTS):
                    expected = [tuple(places[at] for at in least) for least in least_moves(alone, worth, lot=lot)]
                    self.assertEqual(least_moves(program, worth, lot=lot), expected)

    def test_moving_the_other_worth_does_not_matter(self):
        for program in itertools.islice(self.programs(), 0, None, 3):
            for worth, other in (("v", "w"), ("w", "v")):
                steps = [at for at in movable(program) if program.step(at)[1] == other]
                for lot in LOTS:
                    self.assertEqual(bool(leak(moved(program, *steps), worth, lot)), bool(leak(program, worth, lot)))


class TwoTicksTest(unittest.TestCase):
    """One or two sorts, in each order, a cut before one of them or by the order of the rows."""

    head = "main a:name t:tick u:tick w:worth"
    sorts = ([], ["sort t"], ["sort u"], ["sort t", "sort u"], ["sort u", "sort t"])
    mixes = (["near last w"], ["near next w a"], ["near last w t"], ["near next w u"], ["all w t"], ["near last w a", "all w u"],
             ["near next w a", "near last w t"])
    cuts = ("cut before t 2", "cut before u 2", "cut share 1 2", "cut throw")

    def programs(self):
        for sorts in self.sorts:
            for mixes in self.mixes:
                for cut in self.cuts:
                    yield program_of(self.head, *sorts, *mixes, cut)
                    for at in range(1, len(sorts) + 1):
                        yield program_of(self.head, *sorts[:at], *mixes, *sorts[at:], cut)

    def test_states(self):
        for program in itertools.islice(self.programs(), 0, None, 3):
            for lot in LOTS:
                self.assertEqual(bool(leak(program, "w", lot)), naive.shortest(program, "w", lot) is not None)

    def test_tables(self):
        """A leak of any small table is told by the paper, and the paper shows one where it tells so."""
        rows = list(itertools.product("ab", (1, 2), (1, 2, 3)))
        small = list(itertools.product(rows, repeat=2)) + random.Random(3).sample(list(itertools.product(rows, repeat=3)), 60)
        for program in itertools.islice(self.programs(), 0, None, 4):
            told = {lot: bool(leak(program, "w", lot)) for lot in LOTS}
            for lot in LOTS:
                self.assertTrue(leak(program, "w", lot).holds())
            for chosen in small:
                run = Run(program, Tables(program, list(chosen)), Setting(throws=[0, 1, 1]))
                for lot in LOTS:
                    if not told[lot]:
                        self.assertIsNone(run.leak("w", lot))

    def test_newcomers(self):
        """A row of some small tables moves exactly if the program moves."""
        rows = list(itertools.product("ab", (1, 2), (1, 2)))
        for sorts in self.sorts:
            for cut in ("cut before t 2", "cut before u 2", "cut share 2 3", "cut throw", "cut groups 2 1 a", "cut rounds 2 1"):
                program = program_of(self.head, *sorts, cut)
                for growth in ("end", "late", "any"):
                    found = any(self.movers(program, growth, rows))
                    with self.subTest(sorts=sorts, cut=cut, growth=growth):
                        self.assertEqual(found, bool(grown(program, growth)))

    def movers(self, program, growth, rows):
        for chosen in itertools.product(rows, repeat=2):
            tables = Tables(program, list(chosen))
            for newcomer in rows + [("c", 0, 3), ("c", 3, 0), ("c", 3, 3), ("c", 0, 0)]:
                if growth == "late" and any(newcomer[at] < row[at] for at in (1, 2) for row in chosen):
                    continue
                for place in (0, 1, 2) if growth == "any" else (2,):
                    longer = tables.with_row(newcomer, at=place)
                    for throws in ((0, 0, 1), (1, 0, 0)):
                        setting = Setting(throws=throws)
                        yield naive.movers(lambda told: Run(program, told, setting), tables, longer, place) != []

    def test_least_moves(self):
        for program in itertools.islice(self.programs(), 0, None, 7):
            for lots in (LOTS[:1], LOTS[1:], LOTS):
                found = least_moves(program, "w", lot=lots[0] if len(lots) == 1 else None)
                self.assertEqual(found, naive.least_moves(program, "w", lots))


class MovedTest(unittest.TestCase):
    def test_each_lot_by_itself(self):
        """With all steps moved nothing hangs on a row of the other lot, and the rows are the same ones."""
        for program in naive.programs():
            chance = random.Random(1)
            worths = program.columns_of("worth")
            found = moved(program, *movable(program))
            self.assertEqual(movable(found), [])
            for _ in range(5):
                tables, setting = drawn_tables(program, chance)
                other = Tables(found, tables.rows(), {name: tables.side(name) for name, _, _ in program.sides})
                run = Run(found, other, setting)
                self.assertEqual(run.at_cut(), Run(program, tables, setting).at_cut())
                for worth in worths:
                    for number, (own, lot) in enumerate(run.rows()):
                        in_lot = {source for source, its_lot in run.at_cut() if its_lot == lot}
                        self.assertLessEqual(set(run.hangs_on(number, worth)), in_lot)


class ManyWaysTest(unittest.TestCase):
    """The same by functions, by commands of a shelf, by lines of a desk, by texts and by pages."""

    def test_moved_steps(self):
        for seed in range(60):
            chance = random.Random(seed)
            program = drawn_program(chance)
            steps = movable(program)
            chosen = sorted(chance.sample(steps, chance.randint(0, len(steps))))
            at_once = moved(program, *chosen)
            one_by_one = program
            # The foremost one goes first, and each one that goes shifts those behind it.
            places = [at - gone for gone, at in enumerate(chosen)]
            for at in places:
                one_by_one = moved(one_by_one, at)
            shelf, desk = Shelf(), Desk()
            for each in (shelf, desk.shelf()):
                each.apply(*[("put", name, program.text()) for name in "abc"])
            shelf.apply(("behind", "a", tuple(chosen[::-1])))
            shelf.apply(*[("behind", "b", (at,)) for at in places])
            for at in places:
                shelf.apply(("behind", "c", (at,)))
                self.assertEqual(desk(f"behind b {at}"), "done")
            if chosen:
                self.assertEqual(desk("behind a " + " ".join(map(str, chosen))), "done")
            found = [one_by_one, *map(shelf.program, "abc"), *map(desk.shelf().program, "ab" if chosen else "abc")]
            found += [Program.read(at_once.text()), naive.moved(program, chosen)]
            found += [read_page(write_page(each)).program("b") for each in (shelf, desk.shelf())]
            with self.subTest(seed=seed):
                self.assertEqual(found, [at_once] * len(found))

    def test_answers(self):
        for seed in range(60):
            chance = random.Random(seed)
            program = drawn_program(chance)
            (worth,) = program.columns_of("worth")
            desk = Desk()
            shelf = desk.shelf()
            shelf.apply(("put", "a", program.text()))
            other = read_page(write_page(shelf))
            thing = tuple(chance.sample(program.columns_of("name"), 1))
            with self.subTest(seed=seed):
                told = bool(split(program, thing))
                self.assertEqual([shelf.splits("a", *thing), other.splits("a", *thing), desk(f"split a {thing[0]}")], [told, told, yes(told)])
                for lot in LOTS:
                    told = bool(leak(program, worth, lot))
                    self.assertEqual([shelf.leaks("a", worth, lot=lot), other.leaks("a", worth, lot=lot), desk(f"leak a {worth} {lot}")],
                                     [told, told, yes(told)])
                for growth in ("end", "late", "any"):
                    told = bool(grown(program, growth))
                    self.assertEqual([shelf.moves("a", growth), other.moves("a", growth), desk(f"moves a {growth}")],
                                     [told, told, yes(told)])
                self.assertEqual((shelf.kept(), shelf.computed, other.computed), (other.kept(), 6, 6))

    def test_enough_moves_are_enough_on_a_shelf(self):
        for program in naive.programs():
            for worth in program.columns_of("worth"):
                for least in least_moves(program, worth):
                    shelf = Shelf()
                    shelf.apply(("put", "a", program.text()), ("behind", "a", least))
                    self.assertEqual([shelf.leaks("a", worth, lot=lot) for lot in LOTS], [False, False])

    def test_a_shelf_of_a_page_goes_on(self):
        """The one that wrote it and the one that was read do the same from there on."""
        texts = [program.text() for program in naive.programs()]
        for seed in range(20):
            chance = random.Random(seed)
            shelf = Shelf(limit=12)
            shelf.apply(*[("put", name, chance.choice(texts)) for name in "abcde"])
            other = read_page(write_page(shelf))
            self.assertEqual((shelf == other, other.history(), other.limit), (True, (0, 0), 12))
            for _ in range(30):
                name, fresh = chance.choice("abcdef"), chance.choice("abcdefG")
                command = chance.choice([("put", name, chance.choice(texts)), ("drop", name), ("rename", name, fresh),
                                         ("behind", name, (chance.randint(0, 4),)), ("behind", name, 1)])
                self.assertEqual(outcome(shelf.apply, command), outcome(other.apply, command))
                self.assertEqual(write_page(shelf), write_page(other))
            self.assertEqual(other.history()[0] + 1, shelf.history()[0])
            while other.history()[0]:
                shelf.undo()
                other.undo()
                self.assertEqual(write_page(shelf), write_page(other))


def yes(answer):
    return "yes" if answer else "no"


def outcome(call, *given):
    """What a call returns, or its error with what it tells."""
    try:
        return call(*given)
    except (LotsError, Missing, NothingLeft) as error:
        return error.code, vars(error)


class LedgerTest(unittest.TestCase):
    def test_runs_and_ledgers(self):
        """The parting and the chains of a run are the groups and chains of a ledger that deals the same rows."""
        for seed in range(60):
            chance = random.Random(seed)
            program = drawn_program(chance)
            # A copy would be a row more in a ledger, and a row of the main table may be dropped.
            steps = [step for step in program.steps[:program.cut_at] if step[0] not in ("twice", "fan")]
            program = Program(program.main, [*steps, ("cut", "throw")], sides=program.sides, unique=program.unique)
            run = Run(program, *drawn_tables(program, chance))
            names = program.columns_of("name")
            fields = dict(zip(names, "abcdefghij"))
            things = [tuple(chance.sample(names, min(len(names), chance.randint(1, 3)))) for _ in range(chance.randint(1, 4))]
            ledger = Ledger(*[tuple(fields[name] for name in thing) for thing in things])
            owns = []
            for own, values in sorted(run.values_at_cut(names)):
                owns.append(own)
                ledger.add({fields[name]: value for name, value in zip(names, values) if value is not None}, side="learn")
            groups = sorted({tuple(owns[number] for number in ledger.group(at)) for at in range(len(ledger))})
            with self.subTest(seed=seed):
                self.assertEqual(parting(run, *things), [list(group) for group in groups])
                for one, other in itertools.product(range(len(owns)), repeat=2):
                    found = ledger.chain(one, other)
                    expected = None if found is None else [owns[number] for number in found]
                    self.assertEqual(chain(run, owns[one], owns[other], *things), expected)


class KeysTest(unittest.TestCase):
    def test_newcomers_with_an_equal_key(self):
        program = program_of("main a:name t:tick", "key a", "sort t", "cut throw")
        paper = grown(program, "end")
        with self.assertRaises(InvalidRow):
            paper.tables.with_row((paper.tables.rows()[0][0], -9))
        self.assertTrue(paper.tables.with_row(paper.newcomer, at=paper.place))


if __name__ == "__main__":
    unittest.main()
