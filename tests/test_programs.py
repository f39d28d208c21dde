"""Programs: what is refused, with its index, and what a program tells."""

import unittest

from bothlots.errors import InvalidColumn, InvalidKey, InvalidSide, InvalidStep, InvalidWord, TooMany
from bothlots.programs import Program

PERSON = ("person", "name")
DAY = ("day", "tick")
HOUR = ("hour", "tick")
KIND = ("kind", ("cat", "dog"))
PULSE = ("pulse", "worth")
MAIN = [PERSON, DAY, KIND, PULSE]
PEOPLE = ("people", "one", [("home", "name"), ("far", ("near", "far"))])
HOMES = ("homes", "one", [("owner", "name")])
VISITS = ("visits", "many", [("place", "name"), ("long", ("yes", "no"))])
SIDES = [PEOPLE, HOMES, VISITS]
THROW = ("cut", "throw")

# Values of no documented kind, in the place of a list, a tuple, a word or a number.
ODD = (None, True, False, 0, 7, -1, "", "x", "own", (), [], (1,), ["person"], ((),), [[]], (("person", "name"), 3))


def is_within(test, deep):
    """A test that is nested so deep."""
    for _ in range(deep - 1):
        test = ("not", test)
    return test


class ProgramTest(unittest.TestCase):
    def refused(self, error, told, main=MAIN, steps=(THROW,), sides=(), unique=()):
        with self.assertRaises(error) as caught:
            Program(main, steps, sides=sides, unique=unique)
        self.assertIs(type(caught.exception), error)
        (name,) = [name for name in vars(caught.exception) if name != "code"]
        found = getattr(caught.exception, name)
        self.assertEqual((type(found), found), (type(told), told))

    def taken(self, steps, main=MAIN, sides=SIDES, unique=()):
        return Program(main, steps, sides=sides, unique=unique)

    def step_refused(self, steps, at, main=MAIN, sides=SIDES, unique=()):
        with self.subTest(steps=steps, unique=unique):
            self.refused(InvalidStep, at, main, steps, sides, unique)


class ColumnsTest(ProgramTest):
    def test_no_list(self):
        for odd in (None, True, 5, "person", ""):
            self.refused(InvalidColumn, 0, odd)

    def test_no_column(self):
        wrong = [item for item in ODD] + [
            ["person", "name"], ("person",), ("person", "name", "name"), ("Person", "name"), ("sevenly", "name"),
            ("", "name"), ("a.b", "name"), ("own", "name"), ("own", ("a",)), (1, "name"), (None, "name"),
            (("a",), "name"), ("a", "tag"), ("a", "many"), ("a", ""), ("a", None), ("a", True), ("a", 1), ("a", ()),
            ("a", ["x"]), ("a", ["x", "y"]), ("a", ("x", "x")), ("a", ("w", "x", "y", "z")), ("a", ("name",)),
            ("a", ("x", "tick")), ("a", ("worth", "x")), ("a", ("x", "Y")), ("a", ("x", 1)), ("a", ("x", ())),
            ("a", ("x.y",)), ("a", (("x",),)), ("a", "names"),
        ]
        for item in wrong:
            with self.subTest(item=item):
                self.refused(InvalidColumn, 0, [item])
                self.refused(InvalidColumn, 2, [("b", "name"), ("c", "tick"), item, ("d", "name")])
                self.refused(InvalidColumn, 6, [(name, "name") for name in "bcdefg"] + [item])

    def test_doubled_names(self):
        self.refused(InvalidColumn, 1, [PERSON, PERSON])
        self.refused(InvalidColumn, 3, [PERSON, DAY, KIND, ("day", "worth"), ("Bad", "name")])

    def test_first_wrong_column_counts(self):
        self.refused(InvalidColumn, 1, [PERSON, ("X", "name"), 5, PERSON])
        self.refused(InvalidColumn, 1, [DAY, DAY, HOUR, ("third", "tick")])
        self.refused(InvalidColumn, 6, [(name, "tick") for name in "abcdef"] + [3])

    def test_numbers_of_columns(self):
        self.refused(InvalidColumn, 0, [])
        self.refused(InvalidColumn, 0, ())
        self.assertEqual(len(Program([PERSON], [THROW]).main), 1)
        six = [(name, "name") for name in "abcdef"]
        self.assertEqual(Program(six, [THROW]).main, tuple(six))
        self.refused(InvalidColumn, 7, six + [("g", "name")])
        self.refused(InvalidColumn, 1, [DAY])
        self.refused(InvalidColumn, 3, [DAY, PULSE, KIND])
        self.assertEqual(Program([DAY, HOUR, PERSON], [THROW]).columns_of("tick"), ["day", "hour"])
        self.refused(InvalidColumn, 4, [DAY, HOUR, ("third", "tick"), PERSON])

    def test_words_that_may_be_names(self):
        main = (("name", "name"), ("tick", "tick"), ("worth", ("own", "one", "tag")))
        self.assertEqual(Program(main, (THROW,)).main, main)
        self.assertEqual(Program([("a", ("x",)), ("b", "name")], [THROW]).columns_of("tag"), ["a"])
        self.assertEqual(Program([("a", ("x", "y", "z")), ("b", "name")], [THROW]).columns_of("tag"), ["a"])


class SidesTest(ProgramTest):
    def test_no_list(self):
        for odd in (None, True, 5, "people"):
            self.refused(InvalidSide, 0, sides=odd)

    def test_no_side(self):
        columns = [("home", "name")]
        wrong = [item for item in ODD] + [
            ["people", "one", columns], ("people", "one"), ("people", "one", columns, 1), ("People", "one", columns),
            ("", "one", columns), (1, "one", columns), ("a.b", "one", columns), ("people", "two", columns),
            ("people", None, columns), ("people", ("one",), columns), ("people", "one", []), ("people", "one", ()),
            ("people", "one", "home"), ("people", "one", None), ("people", "one", [("a", "name"), 1]),
            ("people", "one", [("a", "name"), ("a", ("x",))]), ("people", "one", [("a", "tick")]),
            ("people", "one", [("a", "worth")]), ("people", "one", [["a", "name"]]), ("people", "one", [("own", "name")]),
            ("people", "one", [("a", ())]), ("people", "one", [("a", ("x", "x"))]), ("people", "one", [("a", ("name",))]),
            ("people", "one", [(name, "name") for name in "abcd"]), ("people", "one", ("a", "name")),
        ]
        for item in wrong:
            with self.subTest(item=item):
                self.refused(InvalidSide, 0, sides=[item])
                self.refused(InvalidSide, 1, sides=(HOMES, item, VISITS))
                self.refused(InvalidSide, 3, sides=[HOMES, PEOPLE, VISITS, item])

    def test_doubled_names(self):
        self.refused(InvalidSide, 2, sides=[PEOPLE, HOMES, PEOPLE])
        for name in ("person", "day", "kind", "pulse"):
            self.refused(InvalidSide, 1, sides=[PEOPLE, (name, "one", [("home", "name")])])

    def test_numbers_of_sides(self):
        self.assertEqual(len(self.taken([THROW]).sides), 3)
        more = ("more", "one", [("home", "name")])
        self.refused(InvalidSide, 4, sides=SIDES + [more])
        self.refused(InvalidSide, 5, sides=SIDES + [more, ("most", "one", [("home", "name")])])
        side = ("people", "one", tuple((name, "name") for name in "abc"))
        self.assertEqual(Program(MAIN, [THROW], sides=[side]).sides, (side,))

    def test_words_that_may_be_names(self):
        side = ("own", "many", (("person", ("own", "one")),))
        self.assertEqual(Program(MAIN, [THROW], sides=[side]).sides, (side,))


class KeysTest(ProgramTest):
    def test_no_key(self):
        wrong = [item for item in ODD if item != ()] + [
            ["person"], [], ("person", "person"), ("person", "pulse"), ("pulse",), ("kind",), ("own",), ("people.home",),
            ("person", "own"), ("other",), ("person", 1), ("person", ("day",)), ("person", ["day"]), (("person",),),
            ("person", None), ("person", True),
        ]
        for item in wrong:
            with self.subTest(item=item):
                self.refused(InvalidKey, item, sides=SIDES, unique=item)

    def test_keys(self):
        for key in ((), ("person",), ("day",), ("kind", "day"), ("person", "kind"), ("day", "person", "kind")):
            self.assertEqual(self.taken([THROW], unique=key).unique, key)


class OrderTest(ProgramTest):
    def test_order_of_errors(self):
        many = [(name, ("x", "y", "z")) for name in "abc"] + [PERSON]
        wrong = {"main": [PERSON, 1], "sides": [1], "unique": ("other",), "steps": [1]}
        right = {"main": many, "sides": SIDES, "unique": ("person",), "steps": [THROW]}
        errors = (("main", InvalidColumn, 1), ("sides", InvalidSide, 0), ("unique", InvalidKey, ("other",)),
                  ("steps", InvalidStep, 0))
        for name, error, told in errors:
            self.refused(error, told, **wrong)
            wrong[name] = right[name]
        self.refused(TooMany, 24, **wrong)

    def test_columns_and_steps(self):
        self.refused(InvalidColumn, 1, [PERSON, PERSON], [("cut",)])
        self.refused(InvalidStep, 0, [PERSON], [("cut",)])


class StepsTest(ProgramTest):
    def test_no_list(self):
        for odd in (None, True, 5, "cut", ""):
            self.step_refused(odd, 0)

    def test_numbers_of_steps(self):
        self.step_refused([], 0)
        self.step_refused((), 0)
        self.step_refused([("sort", "day")], 1)
        sorts = [("sort", "day")] * 11
        self.assertEqual(len(self.taken(sorts + [THROW])), 12)
        self.step_refused([("sort", "day")] + sorts + [THROW], 13)
        self.step_refused([("sort", "day")] + sorts, 12)
        self.step_refused([("sort", "day")] * 4 + sorts + [THROW], 16)

    def test_first_wrong_step_counts(self):
        self.step_refused(sorts_and([("sort", "person"), 5, THROW]), 12)
        self.step_refused([("sort", "day"), ("twice", 4), ("keep",), THROW], 1)
        self.step_refused([THROW, THROW, 5], 1)

    def test_no_step(self):
        wrong = [item for item in ODD] + [
            ["cut", "throw"], ["sort", "day"], ("Sort", "day"), ("sorted", "day"), (["sort"], "day"), (("sort",), "day"),
            (1, 2), (None,), ("cut",), ("behind", "day"), (True, "day"),
        ]
        for item in wrong:
            self.step_refused([("sort", "day"), item, THROW], 1)
            self.step_refused([THROW, ("twice", 2), item], 2)

    def test_keep(self):
        is_cat = ("is", "kind", "cat")
        self.taken([("keep", is_cat), THROW])
        self.taken([("keep", is_within(is_cat, 6)), THROW])
        self.taken([("join", "people", "person"), ("left", "homes", "people.home"),
                    ("keep", ("or", ("and", ("is", "people.far", "far"), ("has", "homes")), ("has", "people"))), THROW])
        wrong = (is_within(is_cat, 7), ("is", "kind", "cow"), ("is", "person", "cat"), ("is", "day", "cat"),
                 ("is", "people.far", "far"), ("has", "people"), ("has", "kind"), ("has", "none"), ("is", "other", "cat"),
                 ("and", is_cat, ("has", "people")), ("not", ("is", "kind", "cow")), ("is", "pulse", "cat"), "cat", None,
                 (), ["is", "kind", "cat"], 1, ("or", is_cat), ("is", "kind"), ("is", "own", "cat"))
        for test in wrong:
            self.step_refused([("keep", test), THROW], 0)
        for step in (("keep",), ("keep", is_cat, is_cat)):
            self.step_refused([step, THROW], 0)

    def test_what_keep_asks_comes_ahead(self):
        keep = ("keep", ("has", "people"))
        tag = ("keep", ("is", "people.far", "near"))
        left = ("left", "people", "person")
        for step in (keep, tag):
            self.taken([left, step, THROW])
            self.step_refused([step, left, THROW], 0)
        self.step_refused([("left", "people", "person"), ("keep", ("has", "homes")), THROW], 1)
        self.step_refused([("fan", "visits", "person"), ("keep", ("has", "visits")), THROW], 1)

    def test_join_and_left(self):
        for word in ("join", "left"):
            self.taken([(word, "people", "person"), THROW])
            self.taken([(word, "people", "person"), (word, "homes", "people.home"), THROW])
            wrong = ((word,), (word, "people"), (word, "people", "person", 1), (word, "visits", "person"),
                     (word, "other", "person"), (word, "people", "day"), (word, "people", "kind"),
                     (word, "people", "pulse"), (word, "people", "own"), (word, "people", "people.home"),
                     (word, "people", "homes.owner"), (word, ("people",), "person"), (word, ["people"], "person"),
                     (word, "people", ("person",)), (word, "people", ["person"]), (word, None, None),
                     (word, "people", "people.far"), (word, True, 1))
            for step in wrong:
                self.step_refused([step, THROW], 0)
            self.step_refused([(word, "homes", "people.home"), (word, "people", "person"), THROW], 0)
            self.step_refused([(word, "people", "person"), (word, "homes", "people.far"), THROW], 1)

    def test_each_side_once(self):
        steps = {"join": ("join", "people", "person"), "left": ("left", "people", "person")}
        for first in steps.values():
            for second in steps.values():
                self.step_refused([first, second, THROW], 1)
        self.step_refused([("fan", "visits", "person"), ("fan", "visits", "person"), THROW], 1)

    def test_sort(self):
        self.taken([("sort", "day"), ("sort", "day"), THROW])
        for step in (("sort",), ("sort", "person"), ("sort", "kind"), ("sort", "pulse"), ("sort", "other"), ("sort", 1),
                     ("sort", ("day",)), ("sort", ["day"]), ("sort", "day", "day"), ("sort", None)):
            self.step_refused([step, THROW], 0)

    def test_once(self):
        for columns in (("person",), ("day",), ("kind", "day"), ("person", "day", "kind")):
            self.taken([("once", columns), THROW])
            self.taken([THROW, ("once", columns)])
        self.taken([("join", "people", "person"), ("once", ("people.home", "person")), THROW])
        self.taken([("fan", "visits", "person"), THROW, ("once", ("visits.place", "person"))])
        wrong = (("once",), ("once", ()), ("once", ("kind",)), ("once", "person"), ("once", ["person"]),
                 ("once", ("person", "person")), ("once", ("pulse",)), ("once", ("person", "pulse")), ("once", ("own",)),
                 ("once", ("people.home",)), ("once", ("person", "people.home")), ("once", ("person", 1)),
                 ("once", ("person",), 1), ("once", (("person",),)), ("once", (["person"],)), ("once", None))
        for step in wrong:
            self.step_refused([step, THROW], 0)
            self.step_refused([THROW, step], 1)
        self.step_refused([("join", "people", "person"), ("once", ("people.home",)), THROW], 1)
        self.step_refused([("join", "people", "person"), THROW, ("once", ("people.home", "kind"))], 2)

    def test_once_at_most_once_and_ahead(self):
        once = ("once", ("person",))
        near = ("near", "pulse", "last", ())
        every = ("all", "pulse", ("kind",))
        self.taken([once, near, every, THROW, once])
        self.step_refused([once, ("sort", "day"), once, THROW], 2)
        self.step_refused([near, once, THROW], 1)
        self.step_refused([every, ("sort", "day"), once, THROW], 2)
        self.taken([near, THROW, once, near, every])
        self.step_refused([THROW, once, once], 2)
        self.step_refused([THROW, near, once], 2)
        self.step_refused([THROW, ("twice", 2), once], 2)

    def test_near_and_all(self):
        for way in ("last", "next"):
            for columns in ((), ("person",), ("kind",), ("day", "kind", "person")):
                self.taken([("near", "pulse", way, columns), THROW, ("near", "pulse", way, columns)])
                self.taken([("all", "pulse", columns), THROW, ("all", "pulse", columns)])
        for worth in ("person", "kind", "other", "", None, 1, ("pulse",), ["pulse"], "own"):
            self.step_refused([("near", worth, "last", ()), THROW], 0)
            self.step_refused([("all", worth, ()), THROW], 0)
        for way in ("first", "", None, 1, ("last",), ["next"], True):
            self.step_refused([("near", "pulse", way, ()), THROW], 0)
        for columns in ("person", ["person"], None, ("person", "person"), ("pulse",), ("people.home",), (1,), ((),),
                        ("own",), ("person", ["day"])):
            self.step_refused([("near", "pulse", "last", columns), THROW], 0)
            self.step_refused([("all", "pulse", columns), THROW], 0)
        for step in (("near", "pulse", "last"), ("near", "pulse", ()), ("all", "pulse"), ("all", "pulse", "last", ()),
                     ("near", "pulse", "last", (), ()), ("all", "pulse", (), ())):
            self.step_refused([step, THROW], 0)
        self.taken([("fan", "visits", "person"), THROW, ("all", "pulse", ("visits.long",))])
        self.step_refused([("all", "pulse", ("visits.long",)), ("fan", "visits", "person"), THROW], 0)

    def test_twice(self):
        self.assertEqual(self.taken([("twice", 2), ("twice", 3), THROW]).many, 6)
        self.step_refused([("twice", 2), ("twice", 2), ("twice", 2), THROW], 2)
        self.taken([("twice", 2), ("fan", "visits", "person"), ("twice", 3), THROW, ("twice", 2), ("twice", 2),
                    ("twice", 3), ("twice", 3)])
        for many in (0, 1, 4, -2, True, False, None, "2", (2,), [2]):
            self.step_refused([("twice", many), THROW], 0)
            self.step_refused([THROW, ("twice", many)], 1)
        self.step_refused([("twice",), THROW], 0)
        self.step_refused([("twice", 2, 2), THROW], 0)

    def test_fan(self):
        self.taken([("fan", "visits", "person"), THROW])
        self.taken([("join", "people", "person"), ("twice", 2), ("fan", "visits", "people.home"), THROW])
        for step in (("fan", "people", "person"), ("fan", "visits", "kind"), ("fan", "visits", "day"), ("fan", "visits"),
                     ("fan", "visits", "people.home"), ("fan", "other", "person"), ("fan", ["visits"], "person"),
                     ("fan", "visits", "visits.place"), ("fan", "visits", "person", 1), ("fan", "visits", None)):
            self.step_refused([step, THROW], 0)
        other = ("trips", "many", [("place", "name")])
        self.step_refused([("fan", "visits", "person"), ("fan", "trips", "person"), THROW], 1, sides=[VISITS, other])

    def test_groups_of_steps(self):
        first = (("keep", ("is", "kind", "cat")), ("join", "people", "person"), ("left", "people", "person"),
                 ("sort", "day"), ("once", ("person",)), ("near", "pulse", "last", ()), ("all", "pulse", ()))
        second = (("twice", 2), ("fan", "visits", "person"))
        for step in first:
            for more in second:
                self.taken([step, more, THROW])
                self.step_refused([more, step, THROW], 1)
        behind = (("once", ("person",)), ("near", "pulse", "last", ()), ("all", "pulse", ()), ("twice", 3))
        for step in first + second:
            if step in behind or step[0] == "twice":
                self.taken([THROW, step])
            else:
                self.step_refused([THROW, step], 1)
        for step in behind[1:]:
            for more in behind[1:]:
                self.taken([THROW, behind[0], step, more])
        self.step_refused([THROW, ("sort", "day"), THROW], 1)
        self.step_refused([THROW, ("twice", 2), THROW], 2)


def sorts_and(more):
    return [("sort", "day")] * 12 + more


class BoundTest(ProgramTest):
    """The bound on "near" and "all" of a worth."""

    main = [PERSON, DAY, KIND, PULSE, ("heat", "worth")]
    mixed = [("near", "pulse", "last", ()), ("all", "pulse", ()), ("near", "pulse", "next", ("kind",))]

    def test_without_bound(self):
        for key in ((), ("person",), ("day",), ("person", "day")):
            self.taken(self.mixed * 3 + [THROW], self.main, unique=key)
            self.taken([("once", ("person", "day"))] + self.mixed * 3 + [THROW], self.main, unique=key)

    def test_with_a_key_of_a_tag(self):
        key = ("person", "kind")
        for first in self.mixed:
            for second in self.mixed:
                self.taken([first, second, THROW], self.main, unique=key)
                self.step_refused([first, ("sort", "day"), second, self.mixed[1], THROW], 3, self.main, unique=key)
        heat = ("all", "heat", ())
        self.taken([self.mixed[0], heat, self.mixed[1], heat, THROW] + self.mixed, self.main, unique=key)
        self.step_refused([self.mixed[0], heat, heat, self.mixed[1], heat, THROW], 4, self.main, unique=key)

    def test_with_a_once(self):
        once = ("once", ("day", "kind"))
        self.taken([once] + self.mixed[:2] + [THROW] + self.mixed, self.main)
        self.step_refused([once] + self.mixed + [THROW], 3, self.main)
        join = ("join", "people", "person")
        for column in ("people.home", "people.far"):
            self.step_refused([join, ("once", ("person", column))] + self.mixed + [THROW], 4, self.main)
        self.taken(self.mixed + [THROW, once] + self.mixed, self.main)
        # A "once" of names does not take back the bound of the key.
        plain = ("once", ("person",))
        self.step_refused([plain] + self.mixed + [THROW], 3, self.main, unique=("kind", "day"))


class CutsTest(ProgramTest):
    def test_rests(self):
        forms = (lambda modulus, rests: ("cut", "rounds", modulus, rests),
                 lambda modulus, rests: ("cut", "mark", ("person",), modulus, rests),
                 lambda modulus, rests: ("cut", "groups", ("person", "kind"), modulus, rests))
        right = ((2, (0,)), (2, (1,)), (3, (0, 1)), (3, (1, 2)), (12, (11,)), (12, tuple(range(11))), (5, (0, 2, 4)))
        wrong = ((1, (0,)), (0, ()), (13, (0,)), (-3, (0,)), (2, ()), (2, (0, 1)), (3, (0, 1, 2)), (3, (3,)), (3, (-1,)),
                 (3, (1, 0)), (3, (1, 1)), (3, [1]), (3, 1), (3, None), (True, (0,)), ("3", (0,)), (None, (0,)),
                 (3, (True,)), (3, (False,)), (3, ("1",)), (3, ((1,),)), (12, tuple(range(12))), ((3,), (1,)), ([3], (1,)))
        for form in forms:
            for modulus, rests in right:
                self.assertEqual(self.taken([form(modulus, rests)]).step(0), form(modulus, rests))
            for modulus, rests in wrong:
                self.step_refused([form(modulus, rests)], 0)

    def test_forms(self):
        wrong = (("cut",), ("cut", "other"), ("cut", None), ("cut", ("throw",)), ("cut", ["throw"]), ("cut", 1),
                 ("cut", "throw", 1), ("cut", "rounds"), ("cut", "rounds", 3), ("cut", "rounds", 3, (1,), 1),
                 ("cut", "mark", ("person",), 3), ("cut", "mark", 3, (1,)), ("cut", "mark", ("person",), 3, (1,), 1),
                 ("cut", "groups", ("person",), 3), ("cut", "before", "day"), ("cut", "before", "day", 1, 1),
                 ("cut", "share", 1), ("cut", "share", 1, 2, 3), ("cut", "groups", 3, (1,)))
        for cut in wrong:
            self.step_refused([cut], 0)

    def test_columns_of_mark_and_groups(self):
        join = ("left", "people", "person")
        fan = ("fan", "visits", "person")
        for columns in (("person",), ("person", "kind", "day"), ("people.home", "visits.place", "person")):
            for form in ("mark", "groups"):
                self.taken([join, fan, ("cut", form, columns, 3, (1,))])
        for columns in (("kind",), ("day",), ("people.home",), ("visits.place",), ("people.far", "visits.long")):
            self.taken([join, fan, ("cut", "mark", columns, 3, (1,))])
            self.step_refused([join, fan, ("cut", "groups", columns, 3, (1,))], 2)
        for columns in ((), ("pulse",), ("own",), ("person", "person"), ("person", "homes.owner"), ["person"], "person",
                        None, ("person", 1), ("person", ["day"])):
            for form in ("mark", "groups"):
                self.step_refused([join, fan, ("cut", form, columns, 3, (1,))], 2)
        self.step_refused([("cut", "mark", ("people.home",), 3, (1,)), join], 0)

    def test_before(self):
        for limit in (0, -5, 999999999999, -999999999999):
            self.taken([("cut", "before", "day", limit)])
        for limit in (10 ** 12, -10 ** 12, True, None, "7", (7,), [7]):
            self.step_refused([("cut", "before", "day", limit)], 0)
        for tick in ("person", "kind", "pulse", "other", None, ("day",), ["day"], 1):
            self.step_refused([("cut", "before", tick, 7)], 0)

    def test_share(self):
        for a, b in ((1, 2), (1, 12), (11, 12), (2, 3)):
            self.taken([("cut", "share", a, b)])
        for a, b in ((0, 2), (1, 1), (2, 2), (3, 2), (12, 13), (1, 13), (-1, 2), (True, 2), (1, True), ("1", 2),
                     (1, None), ((1,), 2), (1, [2])):
            self.step_refused([("cut", "share", a, b)], 0)


class LooksTest(ProgramTest):
    three = ("x", "y", "z")

    def test_tags_of_the_main_table(self):
        main = [PERSON, ("a", self.three), ("b", ("x", "y")), ("c", ("x", "y"))]
        self.taken([THROW], main)
        self.taken([THROW], main + [("d", ("x",)), ("e", ("y", "z"))])
        self.refused(TooMany, 24, main + [("d", self.three)])
        self.refused(TooMany, 24, main[:2] + [("b", self.three), ("c", self.three)])

    def test_sides(self):
        side = ("s", "one", [("a", self.three), ("b", ("x", "y")), ("c", "name")])
        main = [PERSON, ("a", self.three)]
        for word in ("join", "left"):
            self.taken([(word, "s", "person"), THROW], main, [side])
            self.refused(TooMany, 24, main + [("b", ("x", "y"))], [(word, "s", "person"), THROW], [side])
        # A side that no step takes has no part in the looks.
        Program(main + [("b", self.three)], [THROW], sides=[side])
        names = ("t", "one", [("c", "name")])
        Program(main, [("join", "t", "person"), THROW], sides=[side, names])
        self.refused(TooMany, 24, main, [("join", "t", "person"), ("left", "s", "t.c"), THROW], [side, names])

    def test_fan(self):
        side = ("s", "many", [("a", self.three), ("b", ("x", "y")), ("c", ("x", "y"))])
        main = [PERSON, ("a", ("x", "y"))]
        self.taken([("fan", "s", "person"), THROW], main, [side])
        self.refused(TooMany, 24, [PERSON, ("a", self.three)], [("fan", "s", "person"), THROW], [side])

    def test_steps_go_ahead(self):
        main = [PERSON] + [(name, self.three) for name in "abc"]
        self.refused(InvalidStep, 1, main, [THROW, THROW])


class ToldTest(ProgramTest):
    steps = (("sort", "day"), ("join", "people", "person"), ("left", "homes", "people.home"),
             ("near", "pulse", "last", ("person",)), ("twice", 3), ("fan", "visits", "person"), ("twice", 2),
             ("cut", "mark", ("person",), 3, (0, 2)), ("once", ("person",)), ("twice", 3))

    def setUp(self):
        self.program = self.taken(self.steps, unique=("person", "day"))

    def test_properties(self):
        program = self.program
        self.assertEqual(program.main, tuple(MAIN))
        self.assertEqual(program.steps, self.steps)
        self.assertEqual(program.unique, ("person", "day"))
        self.assertEqual(program.sides, tuple((name, how, tuple(columns)) for name, how, columns in SIDES))
        for value in (program.main, program.steps, program.sides, program.unique, program.sides[0][2]):
            self.assertIs(type(value), tuple)
        self.assertEqual((program.cut_at, program.many, len(program)), (7, 6, 10))
        self.assertEqual((Program.MOST_STEPS, Program.MOST_LOOKS, program.MOST_STEPS), (12, 24, 12))

    def test_properties_are_read_only(self):
        for name in ("main", "steps", "sides", "unique", "cut_at", "many"):
            with self.assertRaises(AttributeError):
                setattr(self.program, name, ())

    def test_lists_and_tuples_are_the_same(self):
        sides = tuple((name, how, tuple(columns)) for name, how, columns in SIDES)
        other = Program(tuple(MAIN), list(self.steps), sides=sides, unique=("person", "day"))
        self.assertEqual(other, self.program)

    def test_many_without_twice(self):
        self.assertEqual(self.taken([THROW, ("twice", 3)]).many, 1)
        self.assertEqual(self.taken([("fan", "visits", "person"), THROW]).many, 1)

    def test_step(self):
        self.assertEqual([self.program.step(at) for at in range(10)], list(self.steps))
        for at in (-1, 10, 11, True, False, None, "0", (0,), [0], 10 ** 14):
            with self.subTest(at=at), self.assertRaises(InvalidStep) as caught:
                self.program.step(at)
            self.assertEqual(caught.exception.at, at)

    def test_columns(self):
        main = ["person", "day", "kind"]
        people = main + ["people.home", "people.far"]
        homes = people + ["homes.owner"]
        visits = homes + ["visits.place", "visits.long"]
        expected = [main, main, people, homes, homes, homes, visits, visits, visits, visits]
        self.assertEqual([self.program.columns(at) for at in range(10)], expected)
        self.assertEqual(self.program.columns(), visits)
        self.assertEqual(self.program.columns(at=None), visits)
        for at in (-1, 10, True, "cut", (1,), [], ()):
            with self.subTest(at=at), self.assertRaises(InvalidStep) as caught:
                self.program.columns(at)
            self.assertEqual(caught.exception.at, at)

    def test_columns_come_as_the_sides_come(self):
        program = self.taken([("left", "homes", "person"), ("join", "people", "homes.owner"), THROW])
        self.assertEqual(program.columns(), ["person", "day", "kind", "homes.owner", "people.home", "people.far"])

    def test_columns_of(self):
        self.assertEqual(self.program.columns_of("name"), ["person", "people.home", "homes.owner", "visits.place"])
        self.assertEqual(self.program.columns_of("tick"), ["day"])
        self.assertEqual(self.program.columns_of("tag"), ["kind", "people.far", "visits.long"])
        self.assertEqual(self.program.columns_of("worth"), ["pulse"])
        self.assertEqual(Program([PERSON], [THROW]).columns_of("worth"), [])
        for kind in ("tags", "", None, True, 1, ("name",), ["name"], ("cat", "dog")):
            with self.subTest(kind=kind), self.assertRaises(InvalidWord) as caught:
                self.program.columns_of(kind)
            self.assertEqual(caught.exception.given, kind)

    def test_in(self):
        for column in self.program.columns():
            self.assertIn(column, self.program)
        for other in ("pulse", "own", "people", "home", "homes.home", "", None, 1, True, ("person",), ["person"], [], ()):
            self.assertNotIn(other, self.program)
        self.assertNotIn("people.home", self.taken([THROW]))

    def test_equality(self):
        again = self.taken(self.steps, unique=("person", "day"))
        self.assertTrue(self.program == again)
        self.assertFalse(self.program != again)
        others = (self.taken(self.steps, unique=("day", "person")), self.taken(self.steps),
                  self.taken(self.steps[:9], unique=("person", "day")),
                  self.taken(self.steps, MAIN + [("more", "name")], unique=("person", "day")),
                  self.taken(self.steps, [DAY, PERSON, KIND, PULSE], unique=("person", "day")),
                  self.taken(self.steps, sides=[HOMES, PEOPLE, VISITS], unique=("person", "day")),
                  self.program.text(), None, 10, self.steps, repr(self.program))
        for other in others:
            self.assertFalse(self.program == other)
            self.assertTrue(self.program != other)

    def test_repr(self):
        self.assertEqual(repr(self.program), "Program(4 columns, 10 steps)")
        self.assertEqual(repr(Program([PERSON], [THROW])), "Program(1 columns, 1 steps)")

    def test_what_was_handed_in_is_changed_afterwards(self):
        main, columns = list(MAIN), [("home", "name")]
        sides, steps = [("people", "one", columns)], [("join", "people", "person"), THROW]
        program = Program(main, steps, sides=sides)
        told = (program.main, program.sides, program.steps, program.columns(), program.text())
        for given in (main, columns, sides, steps):
            given.append(5)
            given.reverse()
        again = (program.main, program.sides, program.steps, program.columns(), program.text())
        self.assertEqual(again, told)

    def test_arguments_are_not_changed(self):
        main, sides, steps = list(MAIN), [("people", "one", [("home", "name")])], [("join", "people", "person"), THROW]
        Program(main, steps, sides=sides)
        self.assertEqual((main, sides, steps), (MAIN, [("people", "one", [("home", "name")])],
                                                [("join", "people", "person"), THROW]))

    def test_returned_lists_are_new(self):
        for ask in (self.program.columns, lambda: self.program.columns(0), lambda: self.program.columns_of("name"),
                    lambda: self.program.columns_of("worth")):
            first = ask()
            first.append("more")
            self.assertEqual(ask(), first[:-1])
        self.assertNotIn("more", self.program)


if __name__ == "__main__":
    unittest.main()
