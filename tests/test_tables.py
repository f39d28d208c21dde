"""Tables and settings: what is refused, with its table and index, and what they tell."""

import unittest

from bothlots.errors import InvalidNumber, InvalidRow, InvalidSetting, UnknownName
from bothlots.programs import Program
from bothlots.tables import Setting, Tables

MAIN = [("person", "name"), ("pulse", "worth"), ("day", "tick"), ("kind", ("cat", "dog"))]
SIDES = [("people", "one", [("home", "name"), ("far", ("near", "far"))]), ("visits", "many", [("place", "name")])]
STEPS = [("join", "people", "person"), ("cut", "throw")]
PROGRAM = Program(MAIN, STEPS, sides=SIDES)
KEYED = Program(MAIN, STEPS, sides=SIDES, unique=("kind", "person"))
ROWS = [("ann", 3, "cat"), ("bob", -7, "dog"), ("ann", 3, "cat")]
PEOPLE = [("ann", "rome", "far"), ("bob", "rome", "near")]
VISITS = [("ann", "sea"), ("ann", "sea"), ("zoe", "hill")]
GIVEN = {"people": PEOPLE, "visits": VISITS}

ODD = (None, True, False, 0, 7, "", "ann", (), [], ("ann",), ["ann", 3, "cat"], ("ann", 3), ("ann", 3, "cat", 1),
       ("ann", (3,), "cat"), (["ann"], 3, "cat"))
NO_MAIN_ROWS = ODD + (("Ann", 3, "cat"), ("", 3, "cat"), ("sevenly", 3, "cat"), ("a.b", 3, "cat"), (None, 3, "cat"),
                      (1, 3, "cat"), ("ann", "3", "cat"), ("ann", True, "cat"), ("ann", False, "cat"), ("ann", None, "cat"),
                      ("ann", 3, "cow"), ("ann", 3, None), ("ann", 3, ""), ("ann", 3, 1), ("ann", 3, ("cat", "dog")),
                      (3, "ann", "cat"), ("ann", 3, ["cat"]))
NO_PEOPLE = ODD + (("Ann", "rome", "far"), (None, "rome", "far"), ("ann", "Rome", "far"), ("ann", None, "far"),
                   ("ann", "rome", "away"), ("ann", "rome", None), ("ann", "far", "rome"), ["ann", "rome", "far"])
NO_VISITS = ODD[:-6] + (("ann", "sea", "sea"), ("ann", 1), (1, "sea"), ["ann", "sea"], ("ann", "Sea"))


class TablesTest(unittest.TestCase):
    def refused(self, table, at, rows, sides=None, program=PROGRAM):
        with self.subTest(rows=rows, sides=sides), self.assertRaises(InvalidRow) as caught:
            Tables(program, rows, sides)
        with self.subTest(rows=rows, sides=sides):
            self.assertEqual((caught.exception.table, caught.exception.at), (table, at))
            self.assertEqual(caught.exception.code, "InvalidRow")


class RefusedTest(TablesTest):
    def test_rows_of_the_main_table(self):
        for row in NO_MAIN_ROWS:
            self.refused("", 0, [row], GIVEN)
            self.refused("", 2, [*ROWS[:2], row, ROWS[0], 5], GIVEN)
            self.refused("", 3, (*ROWS, row))

    def test_rows_of_sides(self):
        for row in NO_PEOPLE:
            self.refused("people", 0, ROWS, {"people": [row]})
            self.refused("people", 2, ROWS, {"people": [*PEOPLE, row, 5], "visits": [7]})
        for row in NO_VISITS:
            self.refused("visits", 0, ROWS, {"visits": [row]})
            self.refused("visits", 3, ROWS, {"visits": (*VISITS, row), "people": PEOPLE})

    def test_handles(self):
        self.refused("people", 2, ROWS, {"people": [*PEOPLE, ("ann", "oslo", "near")]})
        self.refused("people", 1, ROWS, {"people": [PEOPLE[0], PEOPLE[0], 5]})
        self.assertEqual(len(Tables(PROGRAM, ROWS, GIVEN).side("visits")), 3)

    def test_keys(self):
        self.assertEqual(len(Tables(PROGRAM, ROWS)), 3)
        self.refused("", 2, ROWS, program=KEYED)
        self.refused("", 1, [ROWS[0], ("ann", 4, "cat"), 5], program=KEYED)
        self.assertEqual(len(Tables(KEYED, [ROWS[0], ("ann", 3, "dog"), ("bob", 3, "cat")])), 3)
        alone = Program(MAIN, STEPS, sides=SIDES, unique=("day",))
        self.refused("", 2, [("ann", 1, "cat"), ("ann", 2, "cat"), ("bob", 1, "dog")], program=alone)
        # A wrong row ahead of a doubled key counts, and the other way round.
        self.refused("", 1, [ROWS[0], 5, ROWS[0]], program=KEYED)
        self.refused("", 1, [ROWS[0], ROWS[0], 5], program=KEYED)

    def test_sides_that_are_none(self):
        self.refused("other", 0, ROWS, {"other": []})
        self.refused("people.home", 0, ROWS, {"visits": VISITS, "people.home": [], "other": []})
        self.refused("kind", 0, ROWS, {"kind": [1], "other": []})
        self.refused("", 0, ROWS, {"": []})

    def test_order(self):
        wrong = {"other": [], "visits": [1], "people": [1]}
        self.refused("", 1, [ROWS[0], 1], wrong)
        self.refused("people", 0, ROWS, wrong)
        self.refused("visits", 0, ROWS, {"other": [], "visits": [1], "people": []})
        self.refused("other", 0, ROWS, {"other": [], "visits": [], "people": []})
        turned = Program(MAIN, STEPS, sides=SIDES[::-1])
        self.refused("visits", 0, ROWS, wrong, turned)


class ToldTest(TablesTest):
    def setUp(self):
        self.tables = Tables(PROGRAM, ROWS, GIVEN)

    def test_basis_and_rows(self):
        self.assertEqual(self.tables.basis, PROGRAM)
        self.assertEqual(self.tables.rows(), ROWS)
        self.assertEqual(self.tables.side("people"), PEOPLE)
        self.assertEqual(self.tables.side("visits"), VISITS)
        self.assertEqual(Tables(PROGRAM, tuple(ROWS), {"people": tuple(PEOPLE)}).side("people"), PEOPLE)
        with self.assertRaises(AttributeError):
            self.tables.basis = PROGRAM

    def test_lacking_sides(self):
        for sides in (None, {}, {"visits": []}):
            tables = Tables(PROGRAM, ROWS, sides)
            self.assertEqual((tables.side("people"), tables.side("visits")), ([], []))
        self.assertEqual(Tables(PROGRAM, ROWS), Tables(PROGRAM, ROWS, sides={"people": []}))

    def test_unknown_sides(self):
        for name in ("other", "", "person", "people.home", None, 1, True, ("people",), ["people"], [], ()):
            with self.subTest(name=name), self.assertRaises(UnknownName) as caught:
                self.tables.side(name)
            self.assertEqual(caught.exception.name, name)

    def test_length_and_repr(self):
        for many in range(4):
            tables = Tables(PROGRAM, ROWS[:many])
            self.assertEqual((len(tables), repr(tables)), (many, f"Tables({many} rows)"))

    def test_equality(self):
        self.assertTrue(self.tables == Tables(PROGRAM, tuple(ROWS), dict(GIVEN)))
        self.assertFalse(self.tables != Tables(Program(MAIN, STEPS, sides=SIDES), ROWS, GIVEN))
        other_steps = Program(MAIN, STEPS[1:], sides=SIDES)
        others = (Tables(PROGRAM, ROWS[:2], GIVEN), Tables(PROGRAM, [ROWS[1], ROWS[0], ROWS[2]], GIVEN), Tables(PROGRAM, ROWS),
                  Tables(PROGRAM, ROWS, {"people": PEOPLE[::-1], "visits": VISITS}),
                  Tables(PROGRAM, ROWS, {"people": PEOPLE, "visits": VISITS[:2]}), Tables(other_steps, ROWS, GIVEN),
                  ROWS, None, 3, "Tables(3 rows)", PROGRAM)
        for other in others:
            self.assertFalse(self.tables == other)
            self.assertTrue(self.tables != other)

    def test_with_rows(self):
        more = self.tables.with_rows(("zoe", 1, "dog"), ("ann", 3, "cat"))
        self.assertEqual(more.rows(), ROWS + [("zoe", 1, "dog"), ("ann", 3, "cat")])
        self.assertEqual((more.side("people"), more.basis), (PEOPLE, PROGRAM))
        self.assertEqual(self.tables.with_rows(), self.tables)
        self.assertEqual(self.tables.rows(), ROWS)
        for row in NO_MAIN_ROWS:
            with self.subTest(row=row), self.assertRaises(InvalidRow) as caught:
                self.tables.with_rows(ROWS[0], row, 5)
            self.assertEqual((caught.exception.table, caught.exception.at), ("", 4))
        keyed = Tables(KEYED, ROWS[:2])
        with self.assertRaises(InvalidRow) as caught:
            keyed.with_rows(("ann", 3, "dog"), ("bob", 9, "dog"))
        self.assertEqual(caught.exception.at, 3)

    def test_with_row_at_each_place(self):
        row = ("zoe", 1, "dog")
        for at in range(4):
            more = self.tables.with_row(row, at=at)
            self.assertEqual(more.rows(), [*ROWS[:at], row, *ROWS[at:]])
            self.assertEqual((more.side("visits"), more.basis), (VISITS, PROGRAM))
        self.assertEqual(self.tables.with_row(row).rows(), [*ROWS, row])
        self.assertEqual(self.tables.with_row(row, at=None).rows(), [*ROWS, row])
        self.assertEqual(Tables(PROGRAM, []).with_row(row, at=0).rows(), [row])
        self.assertEqual(self.tables.rows(), ROWS)

    def test_with_row_refused(self):
        for at in (-1, 4, True, False, "0", "", (0,), [0], 10 ** 14):
            with self.subTest(at=at), self.assertRaises(InvalidNumber) as caught:
                self.tables.with_row(5, at=at)
            self.assertEqual(caught.exception.given, at)
        for row in NO_MAIN_ROWS:
            for at, told in ((0, 0), (2, 2), (3, 3), (None, 3)):
                with self.subTest(row=row), self.assertRaises(InvalidRow) as caught:
                    self.tables.with_row(row, at=at)
                self.assertEqual((caught.exception.table, caught.exception.at), ("", told))
        keyed = Tables(KEYED, ROWS[:2])
        with self.assertRaises(InvalidRow) as caught:
            keyed.with_row(("bob", 5, "dog"), at=0)
        self.assertEqual(caught.exception.at, 2)
        with self.assertRaises(TypeError):
            self.tables.with_row(ROWS[0], 0)

    def test_copies_both_ways(self):
        rows, people, sides = list(ROWS), list(PEOPLE), {}
        sides["people"] = people
        tables = Tables(PROGRAM, rows, sides)
        rows.append(5)
        people.clear()
        sides["other"] = [1]
        self.assertEqual((tables.rows(), tables.side("people")), (ROWS, PEOPLE))
        tables.rows().clear()
        tables.side("people").append(7)
        self.assertEqual((tables.rows(), tables.side("people"), len(tables)), (ROWS, PEOPLE, 3))


class SettingTest(unittest.TestCase):
    def test_marks(self):
        setting = Setting({("ann",): 5, ("ann", None, 3): -2, (): 9})
        self.assertEqual([setting.mark(("ann",)), setting.mark(("ann", None, 3)), setting.mark(())], [5, -2, 9])
        self.assertEqual([setting.mark(("bob",)), setting.mark(("ann", "ann")), setting.mark((None,))], [0, 0, 0])
        self.assertEqual(Setting().mark(("ann",)), 0)
        self.assertEqual(Setting(None, throws=[1]).mark(("ann",)), 0)

    def test_throws(self):
        setting = Setting(throws=[1, 0, 1])
        self.assertEqual([setting.throw(place) for place in range(5)], [1, 0, 1, 0, 0])
        self.assertEqual([Setting().throw(0), Setting({}, throws=(0, 1)).throw(1), setting.throw(10 ** 14)], [0, 1, 0])

    def test_wrong_throws(self):
        for wrong in (2, -1, True, False, None, "1", "", (), [], (1,), [0], 10 ** 14):
            for throws in ([wrong], [0, 1, wrong], (wrong, 7, 0), [1, wrong, "x"]):
                with self.subTest(throws=throws), self.assertRaises(InvalidSetting) as caught:
                    Setting(throws=throws)
                self.assertEqual((type(caught.exception.given), caught.exception.given), (type(wrong), wrong))

    def test_copies(self):
        marks, throws = {("ann",): 5}, [1]
        setting = Setting(marks, throws=throws)
        marks[("ann",)] = 6
        marks[("bob",)] = 7
        throws.insert(0, 0)
        self.assertEqual([setting.mark(("ann",)), setting.mark(("bob",)), setting.throw(0)], [5, 0, 1])
        with self.assertRaises(TypeError):
            Setting({}, [1])


if __name__ == "__main__":
    unittest.main()
