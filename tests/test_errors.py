"""The error classes: bases, parameters, attributes, codes and the handlers that take them."""

import inspect
import unittest

from bothlots import errors
from bothlots.errors import LotsError, Missing, NothingLeft

# Class name: (direct base, names of the parameters).
CLASSES = {
    "InvalidName": (LotsError, ("given",)),
    "InvalidColumn": (LotsError, ("at",)),
    "InvalidSide": (LotsError, ("at",)),
    "InvalidKey": (LotsError, ("given",)),
    "InvalidStep": (LotsError, ("at",)),
    "InvalidTest": (LotsError, ("given",)),
    "InvalidThing": (LotsError, ("given",)),
    "InvalidRow": (LotsError, ("table", "at")),
    "InvalidSetting": (LotsError, ("given",)),
    "InvalidWord": (LotsError, ("given",)),
    "InvalidNumber": (LotsError, ("given",)),
    "InvalidText": (LotsError, ("line",)),
    "InvalidCommand": (LotsError, ("at",)),
    "DuplicateName": (LotsError, ("name",)),
    "OtherProgram": (LotsError, ()),
    "SideTaken": (LotsError, ("taken",)),
    "Torn": (LotsError, ("one", "other")),
    "TooMany": (LotsError, ("most",)),
    "Full": (LotsError, ("most",)),
    "Untold": (LotsError, ()),
    "UnknownName": (Missing, ("name",)),
    "UnknownColumn": (Missing, ("name",)),
    "UnknownRow": (Missing, ("number",)),
    "NothingLeft": (IndexError, ()),
}

ODD_VALUES = (
    0, -7, 10 ** 20, "", "people", "a b\n", None, True, False, (), [], [1, "a", None],
    ("is", "a", "b"), ((((((((1,),),),),),),),), [[[True], (False, None)], "x"],
)

# What each handler takes, by the direct base of the class.
HANDLERS = {
    LotsError: (LotsError, ValueError),
    Missing: (Missing, LookupError),
    IndexError: (NothingLeft, IndexError, LookupError),
}
ALL_HANDLERS = (LotsError, Missing, NothingLeft, ValueError, LookupError, IndexError)


def made(name, values, by_name):
    """An object of the class, its values passed by position or by name."""
    parameters = CLASSES[name][1]
    if by_name:
        return getattr(errors, name)(**dict(zip(parameters, values)))
    return getattr(errors, name)(*values)


def takes(handler, error):
    """Whether an except for the handler's class takes the error."""
    try:
        try:
            raise error
        except handler:
            return True
    except Exception:
        return False


def value_lists(name):
    """Some lists of values for the parameters of a class, each value at each place."""
    many = len(CLASSES[name][1])
    return [[ODD_VALUES[(at + k * 4) % len(ODD_VALUES)] for k in range(many)] for at in range(len(ODD_VALUES))]


class ClassesTest(unittest.TestCase):
    def test_direct_base(self):
        for name, (base, _) in CLASSES.items():
            with self.subTest(name):
                self.assertEqual(getattr(errors, name).__bases__, (base,))

    def test_no_class_under_another_one(self):
        for one in CLASSES:
            for other in CLASSES:
                if one != other:
                    with self.subTest(f"{one} under {other}"):
                        self.assertFalse(issubclass(getattr(errors, one), getattr(errors, other)))

    def test_no_other_classes(self):
        found = [name for name, value in vars(errors).items() if isinstance(value, type)]
        self.assertEqual(sorted(found), sorted([*CLASSES, "LotsError", "Missing"]))

    def test_defined_in_errors(self):
        for name in [*CLASSES, "LotsError", "Missing"]:
            with self.subTest(name):
                self.assertEqual(getattr(errors, name).__module__, "bothlots.errors")
                self.assertEqual(getattr(errors, name).__name__, name)

    def test_parameters(self):
        for name, (_, parameters) in CLASSES.items():
            with self.subTest(name):
                self.assertEqual(tuple(inspect.signature(getattr(errors, name)).parameters), parameters)

    def test_every_constructor_is_its_own(self):
        for name in CLASSES:
            with self.subTest(name):
                self.assertIn("__init__", vars(getattr(errors, name)))


class ObjectsTest(unittest.TestCase):
    def test_attributes(self):
        for name, (_, parameters) in CLASSES.items():
            for values in value_lists(name):
                for by_name in (False, True):
                    with self.subTest(name, values=values, by_name=by_name):
                        error = made(name, values, by_name)
                        self.assertIs(type(error), getattr(errors, name))
                        for parameter, value in zip(parameters, values):
                            self.assertIs(getattr(error, parameter), value)

    def test_no_further_attributes(self):
        for name, (_, parameters) in CLASSES.items():
            with self.subTest(name):
                error = made(name, value_lists(name)[0], False)
                self.assertEqual(sorted(vars(error)), sorted([*parameters, "code"]))

    def test_code(self):
        for name in CLASSES:
            for by_name in (False, True):
                with self.subTest(name, by_name=by_name):
                    self.assertEqual(made(name, value_lists(name)[5], by_name).code, name)

    def test_two_parameters_are_told_apart_by_name(self):
        error = errors.InvalidRow(at=3, table="people")
        self.assertEqual((error.table, error.at), ("people", 3))
        error = errors.Torn(other=3, one=5)
        self.assertEqual((error.one, error.other), (5, 3))

    def test_wrong_numbers_of_values(self):
        for name, (_, parameters) in CLASSES.items():
            for many in range(4):
                if many != len(parameters):
                    with self.subTest(name, many=many), self.assertRaises(TypeError):
                        getattr(errors, name)(*range(many))

    def test_objects_can_be_shown(self):
        for name in CLASSES:
            for values in value_lists(name):
                self.assertIsInstance(str(made(name, values, False)), str)
                self.assertIsInstance(repr(made(name, values, True)), str)


class HandlersTest(unittest.TestCase):
    def test_which_handlers_take_an_error(self):
        for name, (base, _) in CLASSES.items():
            for handler in ALL_HANDLERS:
                with self.subTest(name, handler=handler.__name__):
                    error = made(name, value_lists(name)[0], False)
                    self.assertEqual(takes(handler, error), handler in HANDLERS[base])

    def test_own_handler_alone(self):
        for name in CLASSES:
            error = made(name, value_lists(name)[0], False)
            found = [other for other in CLASSES if takes(getattr(errors, other), error)]
            self.assertEqual(found, [name])


class BasesTest(unittest.TestCase):
    def test_direct_bases(self):
        self.assertEqual(LotsError.__bases__, (ValueError,))
        self.assertEqual(Missing.__bases__, (LookupError,))

    def test_made_and_caught(self):
        for base, handlers in ((LotsError, (LotsError, ValueError)), (Missing, (Missing, LookupError))):
            for error in (base(), base("a word")):
                for handler in ALL_HANDLERS:
                    with self.subTest(base.__name__, handler=handler.__name__):
                        self.assertEqual(takes(handler, error), handler in handlers)

    def test_no_code(self):
        self.assertFalse(hasattr(LotsError(), "code"))
        self.assertFalse(hasattr(Missing("a word"), "code"))

    def test_not_taken_by_the_classes_below(self):
        for name in CLASSES:
            self.assertFalse(takes(getattr(errors, name), LotsError()))
            self.assertFalse(takes(getattr(errors, name), Missing()))


if __name__ == "__main__":
    unittest.main()
