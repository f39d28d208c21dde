"""Functions and classes called with their parameters by name, in another order; odd values; new lists."""

import unittest

from bothlots import behind, chains, checks, errors, growth, hangs, keys, pages, papers, rules, shares, touches, words
from bothlots.desk import Desk
from bothlots.ledgers import Ledger
from bothlots.programs import Program
from bothlots.runs import Run
from bothlots.shelves import Shelf
from bothlots.tables import Setting, Tables

MAIN = [("a", "name"), ("t", "tick"), ("k", ("x", "y")), ("w", "worth")]
STEPS = [("left", "s", "a"), ("sort", "t"), ("near", "w", "last", ("s.h",)), ("cut", "share", 1, 2)]
SIDES = [("s", "one", [("h", "name")])]
PROGRAM = Program(MAIN, STEPS, sides=SIDES, unique=("a", "t"))
ROWS = [("a", 3, "x"), ("b", 2, "y"), ("a", 1, "x"), ("c", 9, "y")]
HOMES = {"s": [("a", "p"), ("b", "p")]}
TABLES = Tables(PROGRAM, ROWS, HOMES)
SETTING = Setting({("a",): 1}, throws=[0, 1])
RUN = Run(PROGRAM, TABLES, SETTING)
LOOK = ("x", "yes")
STATE = chains.starts(PROGRAM)[0]
TEST = ("and", ("is", "k", "x"), ("has", "s"))
THING = ("a",)
NEWCOMER = ("d", 0, "x")


def shelf_of():
    shelf = Shelf()
    shelf.apply(("put", "a", PROGRAM.text()))
    return shelf


def ledger_of():
    ledger = Ledger(("a",), ("b",))
    for row in ({"a": "x"}, {"a": "x", "b": "y"}, {"b": "y"}, {"b": "z"}):
        ledger.add(row)
    return ledger


LEDGER = ledger_of()
SHELF = shelf_of()
SHELF.moves("a", "end")
DESK = Desk(shelf=SHELF)
DESK.say("names")

# Functions and classes with values for all their parameters, in the order of the interface.
CALLS = (
    (words.is_name, {"value": "a"}),
    (words.is_number, {"value": 3, "least": 2, "most": 9}),
    (checks.is_test, {"value": TEST}),
    (checks.test_text, {"test": TEST}),
    (checks.read_test, {"text": "not has s"}),
    (checks.holds, {"test": TEST, "row": {"k": "x", "s": True}}),
    (Program.read, {"text": PROGRAM.text()}),
    (PROGRAM.step, {"at": 2}),
    (PROGRAM.columns, {"at": 0}),
    (PROGRAM.columns_of, {"kind": "tick"}),
    (Tables, {"program": PROGRAM, "rows": ROWS, "sides": HOMES}),
    (TABLES.side, {"name": "s"}),
    (SETTING.mark, {"values": ("a",)}),
    (SETTING.throw, {"place": 1}),
    (RUN.value, {"number": 1, "column": "s.h"}),
    (RUN.hangs_on, {"number": 1, "worth": "w"}),
    (RUN.alike, {"thing": THING}),
    (RUN.leak, {"worth": "w", "lot": "judge"}),
    (rules.settles, {"program": PROGRAM, "columns": ["a"]}),
    (rules.signs, {"program": PROGRAM}),
    (rules.looks, {"program": PROGRAM}),
    (rules.reaches, {"program": PROGRAM, "look": LOOK, "at": 3}),
    (rules.last_looks, {"program": PROGRAM}),
    (rules.forced, {"program": PROGRAM, "look": LOOK, "other": ("y", "yes"), "columns": ["s.h"]}),
    (rules.parts, {"program": PROGRAM, "columns": ["a"]}),
    (touches.split, {"program": PROGRAM, "thing": THING}),
    (chains.starts, {"program": PROGRAM}),
    (chains.links, {"program": PROGRAM, "worth": "w", "state": STATE}),
    (chains.crosses, {"program": PROGRAM, "state": STATE, "lot": "judge"}),
    (hangs.leak, {"program": PROGRAM, "worth": "w", "lot": "judge"}),
    (growth.grown, {"program": PROGRAM, "kind": "late"}),
    (shares.span, {"program": PROGRAM, "number": 7}),
    (LEDGER.offer, {"row": {"b": "z"}}),
    (LEDGER.row, {"number": 1}),
    (LEDGER.side, {"number": 3}),
    (LEDGER.group, {"number": 1}),
    (LEDGER.chain, {"one": 2, "other": 0}),
    (LEDGER.tally, {"lot": "learn"}),
    (SHELF.program, {"name": "a"}),
    (SHELF.moves, {"name": "a", "growth": "late"}),
    (SHELF.set_limit, {"value": 9}),
    (pages.write_page, {"shelf": SHELF}),
    (pages.read_page, {"text": pages.write_page(SHELF)}),
    (pages.columns_page, {"tables": TABLES}),
    (Desk(shelf=SHELF).say, {"line": "names"}),
    (Desk(shelf=SHELF), {"line": "steps a"}),
)

# Those with parameters behind `*`: the ones ahead of it by order, the others by name.
MORE = (
    (Program, {"main": MAIN, "steps": STEPS}, {"sides": SIDES, "unique": ("a", "t")}),
    (Setting, {"marks": {("a",): 1}}, {"throws": [0, 1]}),
    (TABLES.with_row, {"row": NEWCOMER}, {"at": 1}),
    (RUN.lots, {"own": 1}, {"ended": False}),
    (behind.least_moves, {"program": PROGRAM, "worth": "w"}, {"lot": "learn"}),
    (lambda *given, **named: ledger_of().add(*given, **named), {"row": {"c": "x"}}, {"side": "judge"}),
    (SHELF.leaks, {"name": "a", "worth": "w"}, {"lot": "judge"}),
    (Shelf, {}, {"limit": 3}),
    (lambda *given, **named: Desk(*given, **named).shelf(), {}, {"shelf": SHELF}),
)

# The papers, whose parts are told by properties of the same names.
PAPERS = (
    (papers.Paper, {"program": PROGRAM}),
    (touches.Split, {"program": PROGRAM, "thing": THING, "tables": TABLES, "setting": SETTING}),
    (touches.Whole, {"program": PROGRAM, "thing": THING, "meets": [(LOOK, LOOK, ("a",))]}),
    (hangs.Leak, {"program": PROGRAM, "worth": "w", "lot": "learn", "tables": TABLES, "setting": SETTING, "way": [STATE]}),
    (hangs.Tight, {"program": PROGRAM, "worth": "w", "lot": "learn", "states": [STATE]}),
    (growth.Moves, {"program": PROGRAM, "growth": "end", "tables": TABLES, "setting": SETTING, "newcomer": NEWCOMER,
                    "place": 4, "own": 1}),
    (growth.Stays, {"program": PROGRAM, "growth": "end", "reason": "behind"}),
)

ERRORS = {
    "InvalidName": ["given"], "InvalidColumn": ["at"], "InvalidSide": ["at"], "InvalidKey": ["given"], "InvalidStep": ["at"],
    "InvalidTest": ["given"], "InvalidThing": ["given"], "InvalidRow": ["table", "at"], "InvalidSetting": ["given"],
    "InvalidWord": ["given"], "InvalidNumber": ["given"], "InvalidText": ["line"], "InvalidCommand": ["at"],
    "DuplicateName": ["name"], "OtherProgram": [], "SideTaken": ["taken"], "Torn": ["one", "other"], "TooMany": ["most"],
    "Full": ["most"], "Untold": [], "UnknownName": ["name"], "UnknownColumn": ["name"], "UnknownRow": ["number"],
    "NothingLeft": [],
}


def shown(value):
    """What can be compared of an answer: papers by their parts, settings by what they tell."""
    if isinstance(value, papers.Paper):
        return [type(value).__name__, *[shown(part) for name, part in sorted(vars(value).items())]]
    if isinstance(value, Setting):
        return [value.mark(("a",)), [value.throw(place) for place in range(30)]]
    return value


def backward(given):
    return dict(reversed(list(given.items())))


class NamesTest(unittest.TestCase):
    def test_calls(self):
        for function, given in CALLS:
            with self.subTest(function=function):
                expected = shown(function(*given.values()))
                self.assertEqual(shown(function(**given)), expected)
                self.assertEqual(shown(function(**backward(given))), expected)

    def test_calls_with_a_star(self):
        for function, given, named in MORE:
            with self.subTest(function=function):
                expected = shown(function(*given.values(), **named))
                self.assertEqual(shown(function(**backward({**given, **named}))), expected)
                with self.assertRaises(TypeError):
                    function(*given.values(), *named.values())

    def test_papers(self):
        for kind, given in PAPERS:
            with self.subTest(kind=kind):
                for paper in (kind(*given.values()), kind(**given), kind(**backward(given))):
                    self.assertEqual(paper.basis, PROGRAM)
                    self.assertEqual({name: getattr(paper, name) for name in given}, given)

    def test_runs(self):
        for run in (Run(setting=SETTING, tables=TABLES, program=PROGRAM), Run(tables=TABLES, program=PROGRAM)):
            self.assertEqual(run.rows(), RUN.rows())

    def test_errors(self):
        for name, parameters in ERRORS.items():
            given = {parameter: at for at, parameter in enumerate(parameters)}
            error = getattr(errors, name)(**backward(given))
            self.assertEqual({parameter: getattr(error, parameter) for parameter in parameters}, given)

    def test_any_number_of_arguments(self):
        self.assertEqual(keys.settled(PROGRAM, ("a",), ("s.h",)), ["s.h"])
        self.assertEqual(keys.parting(RUN, ("a",), ("s.h",)), [[0, 1, 2], [3]])
        self.assertEqual(keys.chain(RUN, 0, 1, ("a",), ("s.h",)), [0, 1])
        self.assertEqual(behind.moved(PROGRAM, 2).steps[-1], STEPS[2])
        self.assertEqual(len(TABLES.with_rows(NEWCOMER, ("e", 1, "x"))), 6)
        self.assertEqual(Ledger(("a",), ("b", "c")).things(), [("a",), ("b", "c")])
        self.assertFalse(SHELF.splits("a", "a", "s.h") is None)
        self.assertEqual(list(LEDGER.walk(lot="judge")), list(LEDGER.walk("judge")))

    def test_defaults(self):
        self.assertEqual(Program(MAIN, STEPS[1:2] + STEPS[3:]).sides, ())
        self.assertEqual(Program(MAIN, STEPS[1:2] + STEPS[3:]).unique, ())
        self.assertEqual(Tables(PROGRAM, ROWS).side("s"), [])
        self.assertEqual(TABLES.with_row(NEWCOMER).rows()[-1], NEWCOMER)
        self.assertEqual(PROGRAM.columns(), PROGRAM.columns(3))
        self.assertEqual(RUN.lots(2), RUN.lots(2, ended=True))
        self.assertEqual((Setting().mark(("a",)), Setting().throw(0)), (0, 0))
        self.assertEqual(behind.least_moves(PROGRAM, "w"), behind.least_moves(PROGRAM, "w", lot=None))
        self.assertEqual((Shelf().limit, Desk().shelf(), ledger_of().add({}), ledger_of().add({}, side=None)),
                         (8, Shelf(), "judge", "judge"))
        self.assertEqual(SHELF.leaks("a", "w"), SHELF.leaks("a", "w", lot="learn"))


class NewTest(unittest.TestCase):
    def test_equal_calls_return_equal_results(self):
        for function, given in CALLS:
            self.assertEqual(shown(function(**given)), shown(function(**given)))

    def test_returned_lists_are_new(self):
        """A list that is changed by the caller does not change what is told next."""
        listed = [
            lambda: TABLES.rows(), lambda: TABLES.side("s"), lambda: RUN.at_cut(), lambda: RUN.rows(), lambda: RUN.lots(0),
            lambda: RUN.hangs_on(0, "w"), lambda: rules.settles(PROGRAM, ["a"]), lambda: rules.signs(PROGRAM),
            lambda: rules.looks(PROGRAM), lambda: rules.last_looks(PROGRAM), lambda: chains.starts(PROGRAM),
            lambda: chains.links(PROGRAM, "w", STATE), lambda: PROGRAM.columns(), lambda: PROGRAM.columns_of("name"),
            lambda: keys.settled(PROGRAM, ("a",)), lambda: keys.parting(RUN, ("a",)), lambda: keys.parting(RUN, ("a",))[0],
            lambda: keys.chain(RUN, 0, 2, ("a",)), lambda: behind.movable(PROGRAM), lambda: behind.least_moves(PROGRAM, "w"),
            lambda: rules.forced(PROGRAM, LOOK, LOOK, ["a"]), lambda: LEDGER.things(), lambda: LEDGER.group(0),
            lambda: LEDGER.chain(0, 2), lambda: SHELF.names(), lambda: SHELF.kept(), lambda: pages.columns_page(TABLES),
            lambda: DESK.log()]
        for told in listed:
            found = told()
            self.assertEqual(type(found), list)
            expected = list(found)
            found.clear()
            self.assertEqual(told(), expected)

    def test_arguments_are_not_changed(self):
        for function, given in CALLS:
            before = {name: list(value) if isinstance(value, list) else value for name, value in given.items()}
            function(**given)
            self.assertEqual(given, before)

    def test_given_lists_are_copied(self):
        main, steps, columns = list(MAIN), list(STEPS), [("h", "name")]
        sides = [("s", "one", columns)]
        program = Program(main, steps, sides=sides, unique=("a", "t"))
        rows, homes = list(ROWS), {"s": list(HOMES["s"])}
        held = Tables(program, rows, homes)
        for changed in (main, steps, columns, sides, rows, homes["s"]):
            changed.clear()
        homes.clear()
        self.assertEqual((program, held), (PROGRAM, TABLES))


if __name__ == "__main__":
    unittest.main()
