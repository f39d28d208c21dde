"""What follows in a program, its looks, what two looks force, and whom the cut parts."""

import itertools
import unittest

import naive
from bothlots.errors import UnknownColumn
from bothlots.programs import Program
from bothlots.rules import forced, last_looks, looks, parts, reaches, settles, signs

MAIN = [("person", "name"), ("day", "tick"), ("kind", ("cat", "dog")), ("pulse", "worth")]
PEOPLE = ("people", "one", [("home", "name"), ("far", ("near", "away"))])
HOMES = ("homes", "one", [("owner", "name")])
VISITS = ("visits", "many", [("place", "name"), ("long", ("yes", "no"))])
SIDES = [PEOPLE, HOMES, VISITS]
THROW = ("cut", "throw")


def program_of(*steps, main=MAIN, unique=(), sides=SIDES):
    return Program(main, steps, sides=sides, unique=unique)


class SettlesTest(unittest.TestCase):
    def test_what_follows(self):
        program = program_of(("join", "people", "person"), ("left", "homes", "people.home"), ("fan", "visits", "person"),
                             THROW)
        self.assertEqual(settles(program, []), [])
        self.assertEqual(settles(program, ["kind"]), ["kind"])
        self.assertEqual(settles(program, ("people.home", "day")), ["day", "homes.owner", "people.home"])
        self.assertEqual(settles(program, ["person"]), ["homes.owner", "people.far", "people.home", "person"])
        every = ["day", "homes.owner", "kind", "own", "people.far", "people.home", "person"]
        self.assertEqual(settles(program, ["own"]), every)
        self.assertEqual(settles(program, ["visits.place", "own", "own"]), [*every, "visits.place"])
        self.assertEqual(settles(program, ["visits.place", "visits.long"]), ["visits.long", "visits.place"])

    def test_keys(self):
        main = ["day", "kind", "own", "person"]
        keyed = program_of(THROW, unique=("day", "person"))
        self.assertEqual(settles(keyed, ["person", "day"]), main)
        self.assertEqual(settles(keyed, ["person", "kind"]), ["kind", "person"])
        once = program_of(("once", ("day", "kind")), THROW)
        self.assertEqual(settles(once, ["kind", "day"]), main)
        both = program_of(("join", "people", "person"), ("once", ("day", "people.home")), THROW, unique=("person",))
        whole = ["day", "kind", "own", "people.far", "people.home", "person"]
        self.assertEqual(settles(both, ["people.home", "day"]), whole)
        self.assertEqual(settles(both, ["person"]), whole)
        # A "once" behind the cut settles nothing.
        self.assertEqual(settles(program_of(THROW, ("once", ("person",))), ["person"]), ["person"])

    def test_unknown_columns(self):
        program = program_of(("join", "people", "person"), THROW)
        for wrong in ("pulse", "homes.owner", "people", "home", "", None, True, 1, ("person",), ["person"], [], ()):
            for columns in ([wrong], ["person", wrong, 5], ("own", "day", wrong, "more"), [wrong, "person"]):
                with self.subTest(columns=columns), self.assertRaises(UnknownColumn) as caught:
                    settles(program, columns)
                self.assertEqual((type(caught.exception.name), caught.exception.name), (type(wrong), wrong))

    def test_against_the_plain_words(self):
        for program in naive.programs():
            columns = ["own", *program.columns()]
            for many in range(4):
                for chosen in itertools.combinations(columns, many):
                    self.assertEqual(settles(program, chosen), naive.settles(program, chosen))


class LooksTest(unittest.TestCase):
    def test_signs(self):
        program = program_of(("left", "homes", "person"), ("join", "people", "homes.owner"), ("fan", "visits", "person"),
                             THROW)
        self.assertEqual(signs(program), ["kind", "homes", "people", "people.far", "visits.long"])
        self.assertEqual(signs(program_of(THROW)), ["kind"])
        self.assertEqual(signs(program_of(THROW, main=[("a", "name")])), [])
        self.assertEqual(signs(program_of(("fan", "visits", "person"), THROW)), ["kind", "visits.long"])

    def test_looks_in_their_order(self):
        self.assertEqual(looks(program_of(THROW)), [("cat",), ("dog",)])
        self.assertEqual(looks(program_of(THROW, main=[("a", "name")])), [()])
        turned = [("b", ("y", "x")), ("a", "name"), ("c", ("r", "p", "q"))]
        self.assertEqual(looks(program_of(THROW, main=turned)), [("y", "r"), ("y", "p"), ("y", "q"), ("x", "r"), ("x", "p"), ("x", "q")])
        self.assertEqual(looks(program_of(("left", "people", "person"), THROW)), [
            ("cat", "yes", "near"), ("cat", "yes", "away"), ("cat", "no", None),
            ("dog", "yes", "near"), ("dog", "yes", "away"), ("dog", "no", None)])
        program = program_of(("left", "homes", "person"), ("fan", "visits", "person"), THROW, main=[("person", "name")])
        self.assertEqual(looks(program), [("yes", "yes"), ("yes", "no"), ("no", "yes"), ("no", "no")])

    def test_sides_without_a_partner(self):
        main = [("person", "name")]
        program = program_of(("left", "people", "person"), ("join", "homes", "people.home"), THROW, main=main)
        self.assertEqual(looks(program), [("yes", "near", "yes"), ("yes", "near", "no"), ("yes", "away", "yes"),
                                          ("yes", "away", "no"), ("no", None, "no")])
        program = program_of(("left", "homes", "person"), ("left", "people", "homes.owner"), THROW, main=main)
        self.assertEqual(looks(program), [("yes", "yes", "near"), ("yes", "yes", "away"), ("yes", "no", None),
                                          ("no", "no", None)])
        program = program_of(("left", "homes", "person"), ("left", "people", "person"), THROW, main=main)
        self.assertEqual(len(looks(program)), 6)

    def test_reaches(self):
        program = program_of(("left", "people", "person"), ("keep", ("is", "kind", "cat")),
                             ("keep", ("or", ("not", ("has", "people")), ("is", "people.far", "near"))),
                             ("join", "homes", "people.home"), THROW, ("twice", 2))
        expected = {
            ("cat", "yes", "near", "yes"): 6, ("cat", "yes", "near", "no"): 3, ("cat", "yes", "away", "yes"): 2,
            ("cat", "yes", "away", "no"): 2, ("cat", "no", None, "no"): 3, ("dog", "yes", "near", "yes"): 1,
            ("dog", "yes", "near", "no"): 1, ("dog", "yes", "away", "yes"): 1, ("dog", "yes", "away", "no"): 1,
            ("dog", "no", None, "no"): 1,
        }
        self.assertEqual(looks(program), list(expected))
        for look, last in expected.items():
            self.assertEqual([reaches(program, look, at) for at in range(7)], [at <= last for at in range(7)])
        self.assertEqual(last_looks(program), [("cat", "yes", "near", "yes")])

    def test_reaches_a_fan(self):
        program = program_of(("left", "people", "person"), ("fan", "visits", "people.home"), ("twice", 2), THROW,
                             main=[("person", "name")])
        for look in looks(program):
            self.assertEqual([reaches(program, look, at) for at in range(5)], [True, True] + [look[0] == "yes"] * 3)
        self.assertEqual(last_looks(program), [("yes", "near", "yes"), ("yes", "near", "no"), ("yes", "away", "yes"),
                                               ("yes", "away", "no")])
        plain = program_of(("left", "people", "person"), ("fan", "visits", "person"), THROW, main=[("person", "name")])
        self.assertEqual(last_looks(plain), looks(plain))

    def test_no_look_reaches(self):
        program = program_of(("keep", ("is", "kind", "cat")), ("keep", ("is", "kind", "dog")), THROW)
        self.assertEqual(last_looks(program), [])

    def test_against_the_plain_words(self):
        for program in naive.programs():
            self.assertEqual(signs(program), naive.signs(program))
            found = looks(program)
            # The order is tried by hand above.
            self.assertEqual(sorted(found, key=repr), sorted(naive.looks(program), key=repr))
            self.assertEqual(len(set(found)), len(found))
            for look in found:
                for at in range(len(program) + 1):
                    self.assertEqual(reaches(program, look, at), naive.reaches(program, look, at))
            self.assertEqual(sorted(last_looks(program), key=repr), sorted(naive.last_looks(program), key=repr))

    def test_lists_are_new(self):
        program = program_of(("left", "people", "person"), THROW)
        for ask in (signs, looks, last_looks):
            first = ask(program)
            ask(program).clear()
            self.assertEqual(ask(program), first)


class ForcedTest(unittest.TestCase):
    program = program_of(("left", "people", "person"), ("left", "homes", "people.home"), ("fan", "visits", "person"), THROW,
                         unique=("person", "kind"), main=[("person", "name"), ("kind", ("cat", "dog")), ("day", "tick")],
                         sides=[PEOPLE, HOMES, ("visits", "many", [("place", "name"), ("sole", ("yes",))])])

    def test_equal_looks(self):
        look = ("cat", "yes", "near", "no", "yes")
        self.assertEqual(forced(self.program, look, look, []), ["homes.owner", "kind", "people.far", "visits.sole"])
        self.assertEqual(forced(self.program, look, look, ["person"]),
                         ["day", "homes.owner", "kind", "own", "people.far", "people.home", "person", "visits.sole"])
        self.assertEqual(forced(self.program, look, look, ("day", "visits.place")),
                         ["day", "homes.owner", "kind", "people.far", "visits.place", "visits.sole"])
        alone = ("dog", "no", None, "no", "yes")
        self.assertEqual(forced(self.program, alone, alone, []),
                         ["homes.owner", "kind", "people.far", "people.home", "visits.sole"])

    def test_unlike_looks(self):
        near = ("cat", "yes", "near", "yes", "yes")
        away = ("cat", "yes", "away", "yes", "yes")
        none = ("cat", "no", None, "no", "yes")
        dog = ("dog", "yes", "near", "yes", "yes")
        self.assertEqual(forced(self.program, near, away, ["people.home"]),
                         ["homes.owner", "kind", "people.home", "visits.sole"])
        # A column of tags that is forced has unlike values.
        self.assertIsNone(forced(self.program, near, away, ["person"]))
        self.assertIsNone(forced(self.program, near, away, ["people.far"]))
        self.assertIsNone(forced(self.program, near, dog, ["own"]))
        self.assertEqual(forced(self.program, near, dog, ["person"]),
                         ["homes.owner", "people.far", "people.home", "person", "visits.sole"])
        self.assertIsNone(forced(self.program, near, dog, ["kind"]))
        # Just one of the looks has a partner.
        for columns in (["person"], ["people.home"], ["people.far"], ["homes.owner"], ["own"]):
            self.assertIsNone(forced(self.program, near, none, columns))
            self.assertIsNone(forced(self.program, none, near, columns))
        self.assertEqual(forced(self.program, near, none, ["day"]), ["day", "kind", "visits.sole"])

    def test_a_side_joined_by_a_side(self):
        one = ("cat", "yes", "near", "yes", "yes")
        two = ("cat", "yes", "near", "no", "yes")
        for columns in (["person"], ["people.home"], ["homes.owner"]):
            self.assertIsNone(forced(self.program, one, two, columns))
        self.assertEqual(forced(self.program, one, two, ["people.far"]), ["kind", "people.far", "visits.sole"])

    def test_signs_of_the_fan(self):
        program = program_of(("fan", "visits", "person"), THROW)
        self.assertEqual(forced(program, ("cat", "yes"), ("cat", "yes"), ["visits.place"]),
                         ["kind", "visits.long", "visits.place"])
        self.assertEqual(forced(program, ("cat", "yes"), ("cat", "no"), ["own"]), ["day", "kind", "own", "person"])
        self.assertIsNone(forced(program, ("cat", "yes"), ("cat", "no"), ["visits.long"]))

    def test_against_the_plain_words(self):
        for program in naive.programs():
            columns = ["own", *program.columns()]
            found = looks(program)
            for look in found:
                for other in found:
                    for many in range(3):
                        for chosen in itertools.combinations(columns, many):
                            self.assertEqual(forced(program, look, other, chosen),
                                             naive.forced(program, look, other, chosen))


class PartsTest(unittest.TestCase):
    fan = ("fan", "visits", "person")

    def cut_parts(self, cut, columns, *steps):
        return parts(program_of(*steps, cut), columns)

    def test_mark_and_groups(self):
        for form in ("mark", "groups"):
            cut = ("cut", form, ("person", "kind"), 3, (1,))
            for columns, expected in ((["person"], True), (["kind", "day"], True), ([], True), (["kind", "person"], False),
                                      (["own"], False), (["kind", "own"], False)):
                self.assertEqual(self.cut_parts(cut, columns), expected)
            # The columns are taken as they are, whether or not others follow from them.
            for doubling in (("twice", 2), self.fan):
                self.assertEqual(self.cut_parts(cut, ["own"], doubling), True)
                self.assertEqual(self.cut_parts(cut, ["own", "person", "kind"], doubling), False)
                self.assertEqual(self.cut_parts(cut, ["person", "kind"], doubling), False)
            with_fan = ("cut", form, ("person", "visits.place"), 3, (1,))
            self.assertEqual(self.cut_parts(with_fan, ["own", "person"], self.fan), True)
            self.assertEqual(self.cut_parts(with_fan, ["person", "visits.place"], self.fan), False)

    def test_before(self):
        cut = ("cut", "before", "day", 3)
        for doubling in ((), (("twice", 2),), (self.fan,)):
            for columns, expected in (([], True), (["person", "kind"], True), (["day"], False), (["own"], False),
                                      (["own", "person"], False)):
                self.assertEqual(self.cut_parts(cut, columns, *doubling), expected)

    def test_throw_and_share(self):
        for cut in (THROW, ("cut", "share", 1, 2)):
            for columns in ([], ["person", "day", "kind"]):
                self.assertEqual(self.cut_parts(cut, columns), True)
            self.assertEqual(self.cut_parts(cut, ["own"]), False)
            for doubling in (("twice", 2), self.fan):
                self.assertEqual(self.cut_parts(cut, ["own"], doubling), True)
                self.assertEqual(self.cut_parts(cut, ["person"], doubling), True)
            # Copies behind the cut are not parted by it.
            self.assertEqual(parts(program_of(cut, ("twice", 2)), ["own"]), False)

    def test_rounds(self):
        def cut(modulus, *rests):
            return "cut", "rounds", modulus, rests

        self.assertEqual(self.cut_parts(cut(2, 1), []), True)
        self.assertEqual(self.cut_parts(cut(2, 1), ["person", "day", "kind"]), True)
        self.assertEqual(self.cut_parts(cut(2, 1), ["own"]), False)
        for modulus, rests, many, expected in (
                (4, (2, 3), 2, False), (4, (1, 2), 2, True), (4, (0,), 2, True), (2, (1,), 2, True), (3, (1,), 2, True),
                (6, (0, 1, 4, 5), 2, False), (6, (0, 1, 2), 3, False), (6, (0, 1, 5), 3, True), (12, (8, 9, 10, 11), 2, False),
                (3, (0,), 3, True), (5, (4,), 3, True), (9, (6, 7, 8), 3, False), (8, (0, 1, 2, 3), 2, False)):
            with self.subTest(modulus=modulus, rests=rests, many=many):
                self.assertEqual(self.cut_parts(cut(modulus, *rests), ["own"], ("twice", many)), expected)
                self.assertEqual(self.cut_parts(cut(modulus, *rests), [], ("twice", many)), True)
                self.assertEqual(self.cut_parts(cut(modulus, *rests), ["own"], ("twice", many), self.fan), True)
        self.assertEqual(self.cut_parts(cut(8, 4, 5, 6, 7), ["own"], ("twice", 2), ("twice", 2)), False)
        self.assertEqual(self.cut_parts(cut(4, 2, 3), ["own"], ("twice", 2), ("twice", 2)), True)
        self.assertEqual(self.cut_parts(cut(4, 2, 3), ["own"], self.fan), True)

    def test_against_the_plain_words(self):
        for program in naive.programs():
            columns = ["own", *program.columns()]
            for many in range(len(columns) + 1):
                for chosen in itertools.combinations(columns, many):
                    self.assertEqual(parts(program, list(chosen)), naive.parts(program, chosen))


if __name__ == "__main__":
    unittest.main()
