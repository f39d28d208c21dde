"""The tests of rows: form, text, reading, and whether they hold."""

import itertools
import unittest

from bothlots.checks import holds, is_test, read_test, test_text as text_of
from bothlots.errors import InvalidTest

IS = ("is", "kind", "cat")
HAS = ("has", "people")

# Each form, with its text.
FORMS = (
    (("is", "kind", "cat"), "is kind cat"),
    (("is", "people.kind", "cat"), "is people.kind cat"),
    (("has", "people"), "has people"),
    (("not", ("has", "people")), "not has people"),
    (("and", ("is", "kind", "cat"), ("has", "people")), "and is kind cat has people"),
    (("or", ("has", "people"), ("is", "a.b", "c")), "or has people is a.b c"),
    (("and", ("not", HAS), ("or", IS, ("and", HAS, IS))),
     "and not has people or is kind cat and has people is kind cat"),
    (("is", "own", "tick"), "is own tick"),
    (("is", "is", "is"), "is is is"),
    (("has", "not"), "has not"),
    (("not", ("is", "not", "and")), "not is not and"),
    (("and", ("has", "and"), ("has", "or")), "and has and has or"),
)

NO_TEXTS = (None, True, False, 0, 1, -3, (), [], ("has", "people"), ["has people"], ("has people",), (("is",), 1))
NO_TUPLES = (None, True, False, 0, 5, "", "is", "has people", "is kind cat", [], ["has", "people"], [HAS], b"has")

# Words in the place of a name or of a column, that are none.
NO_NAMES = ("", "Cat", "cat1", "c t", "cat ", " cat", "cat\n", "sevenly", "a.b", ".", "_", None, True, 1, (), ("cat",),
            ["cat"])
NO_COLUMNS = tuple(word for word in NO_NAMES if word != "a.b") + (
    "a.b.c", "a.", ".a", "a..b", "..", "a.B", "A.b", "a.sevenly", "sevenly.a", "a. b", "a .b", "a.b\n", ("a", "b"))


def under_nots(many, test=HAS):
    """A test with so many `not` ahead."""
    for _ in range(many):
        test = ("not", test)
    return test


def chained(word, many, last):
    """A test in which so many `and` or `or` are nested, at the last place or at the first one."""
    test = IS
    for _ in range(many):
        test = (word, HAS, test) if last else (word, test, HAS)
    return test


def full(deep):
    """A test all of whose branches are so deep, of `and` and `or` by turns."""
    if deep == 1:
        return HAS
    return ("or" if deep & 1 else "and", full(deep - 1), full(deep - 1))


def nested(deep):
    """Tests that are so deep."""
    found = [under_nots(deep - 1), under_nots(deep - 1, IS), full(deep)]
    found += [chained(word, deep - 1, last) for word in ("and", "or") for last in (False, True)]
    found += [under_nots(k, chained("or", deep - 1 - k, last)) for k in range(deep) for last in (False, True)]
    return found


def paths(test, ahead=()):
    """The paths to a test and to all tests within it."""
    yield ahead
    if test[0] in ("not", "and", "or"):
        for at in range(1, len(test)):
            yield from paths(test[at], (*ahead, at))


def within(test, path):
    for at in path:
        test = test[at]
    return test


def with_part(test, path, part):
    """The test with another value at a path."""
    if not path:
        return part
    at = path[0]
    return (*test[:at], with_part(test[at], path[1:], part), *test[at + 1:])


class IsTestTest(unittest.TestCase):
    def test_forms(self):
        for test, _ in FORMS:
            self.assertIs(is_test(test), True, test)

    def test_by_name(self):
        self.assertIs(is_test(value=HAS), True)
        self.assertIs(is_test(value=None), False)

    def test_names_of_every_length(self):
        for word in ("a", "abcdef", "own", "name", "tick", "worth"):
            for test in (("is", word, "cat"), ("is", "kind", word), ("is", f"{word}.{word}", word), ("has", word)):
                self.assertIs(is_test(test), True, test)

    def test_depths(self):
        for deep in range(1, 7):
            for test in nested(deep):
                self.assertIs(is_test(test), True, test)
        for deep in (7, 8, 9):
            for test in nested(deep):
                self.assertIs(is_test(test), False, test)

    def test_too_deep_at_one_place_alone(self):
        for path in paths(full(6)):
            test = with_part(full(6), path, full(7 - len(path)))
            self.assertIs(is_test(test), False, test)

    def test_no_tuples(self):
        for value in NO_TUPLES:
            self.assertIs(is_test(value), False, repr(value))

    def test_bent_tuples(self):
        for value in ((), ((),), ("",), ("is",), ("has",), ("not",), ("and",), ("or",), (HAS,), (IS, IS), (None,),
                      (True, HAS), (1, "kind", "cat"), (["is"], "kind", "cat"), (("has",), "people"), ([],),
                      ("Has", "people"), ("has ", "people"), ("xor", HAS, IS), ("nor", HAS, IS), ("keep", HAS),
                      ("not", HAS, IS), ("and", HAS), ("or", HAS, IS, HAS), ("and", (HAS, IS)), ("has", ("people",)),
                      ("is", "kind"), ("is", "kind", "cat", "dog"), ("has", "people", "kind"), ("is", ("kind", "cat"))):
            self.assertIs(is_test(value), False, repr(value))

    def test_wrong_names(self):
        for word in NO_NAMES:
            self.assertIs(is_test(("is", "kind", word)), False, repr(word))
            self.assertIs(is_test(("has", word)), False, repr(word))

    def test_wrong_columns(self):
        for word in NO_COLUMNS:
            self.assertIs(is_test(("is", word, "cat")), False, repr(word))

    def test_one_part_bent_at_each_place(self):
        for test, _ in FORMS:
            for path in paths(test):
                part = within(test, path)
                bent = [list(part), part[:-1], part[1:], (*part, part[-1]), (*part, "cat"), (*part, HAS), None, "cat",
                        True, (), ("xor", *part[1:]), (None, *part[1:]), (part,), " ".join(map(str, part))]
                bent += [(part[0], list(part[1:])), (list(part[:1]), *part[1:])]
                bent += [(*part[:at], list(part[at]), *part[at + 1:]) for at in range(1, len(part))]
                for value in bent:
                    whole = with_part(test, path, value)
                    self.assertIs(is_test(whole), False, repr(whole))

    def test_deep_values_of_no_form(self):
        value = "people"
        for _ in range(8):
            value = ("has", value)
            self.assertIs(is_test(("not", value)), value == HAS)
        value = []
        for _ in range(8):
            value = [value]
            self.assertIs(is_test(value), False)


class TextTest(unittest.TestCase):
    def test_forms(self):
        for test, text in FORMS:
            self.assertEqual(text_of(test), text)

    def test_by_name(self):
        self.assertEqual(text_of(test=("not", HAS)), "not has people")

    def test_beyond_six_deep(self):
        self.assertEqual(text_of(under_nots(6)), "not not not not not not has people")


class ReadTestTest(unittest.TestCase):
    def refused(self, value):
        with self.assertRaises(InvalidTest, msg=repr(value)) as caught:
            read_test(value)
        self.assertIs(caught.exception.given, value)
        self.assertEqual(caught.exception.code, "InvalidTest")

    def test_forms(self):
        for test, text in FORMS:
            self.assertEqual(read_test(text), test)

    def test_by_name(self):
        self.assertEqual(read_test(text="has people"), HAS)

    def test_there_and_back(self):
        for deep in range(1, 7):
            for test in nested(deep):
                self.assertEqual(read_test(text_of(test)), test)

    def test_tuples_all_through(self):
        test = read_test(text_of(full(6)))
        for path in paths(test):
            self.assertIs(type(within(test, path)), tuple)

    def test_too_deep(self):
        for deep in (7, 8, 9):
            for test in nested(deep):
                self.refused(text_of(test))
        self.refused("not " * 990 + "has people")
        self.refused("and has a " * 390 + "has a")

    def test_no_strings(self):
        for value in NO_TEXTS:
            self.refused(value)

    def test_few_words(self):
        for text in ("", " ", "\n", "is", "has", "not", "and", "or", "people", "is kind", "not not", "and has a",
                     "or is a b", "and has a not"):
            self.refused(text)

    def test_blanks_and_line_feeds(self):
        for _, text in FORMS:
            for place in range(len(text) + 1):
                if place in (0, len(text)) or text[place] == " ":
                    self.refused(text[:place] + " " + text[place:])
                self.refused(text[:place] + "\n" + text[place:])
                self.refused(text[:place] + "\t" + text[place:])
            self.refused(text.replace(" ", "\n"))
            self.refused(text.replace(" ", "  "))

    def test_wrong_words_in_the_place_of_names(self):
        for word in NO_NAMES:
            if isinstance(word, str):
                self.refused(f"has {word}")
                self.refused(f"is kind {word}")
        for word in NO_COLUMNS:
            if isinstance(word, str):
                self.refused(f"is {word} cat")

    def test_one_word_left_out_put_in_or_changed(self):
        # No form below reads its first words as names, so each such change spoils it.
        for text in ("is kind cat", "has people", "and is kind cat has people", "or has people is a.b c"):
            words = text.split(" ")
            for at in range(len(words)):
                self.refused(" ".join(words[:at] + words[at + 1:]))
                self.refused(" ".join(words[:at] + ["kind"] + words[at:]))
                self.refused(" ".join(words[:at] + ["Kind"] + words[at + 1:]))
            self.refused(" ".join([*words, "kind"]))
        self.refused("xor has people has people")
        self.refused("kind is cat")
        self.refused("people has")
        self.refused("has people and is kind cat")
        self.refused("has people not")
        self.refused("is cat people.kind")

    def test_every_line_of_few_words(self):
        texts = small_texts(5)
        for many in range(1, 6):
            for line in itertools.product(WORDS, repeat=many):
                text = " ".join(line)
                if text in texts:
                    self.assertEqual(read_test(text), texts[text])
                    self.assertEqual(text_of(texts[text]), text)
                    self.assertIs(is_test(texts[text]), True)
                else:
                    self.refused(text)


WORDS = ("is", "has", "not", "and", "or", "a.b", "")


def small_texts(most):
    """All texts of WORDS with at most so many words, with their tests, built from the forms themselves."""
    names = WORDS[:5]
    texts = {0: {}, 1: {}}
    for many in range(2, most + 1):
        found = {}
        if many == 2:
            found.update({f"has {name}": ("has", name) for name in names})
        if many == 3:
            pairs = itertools.product((*names, "a.b"), names)
            found.update({f"is {column} {tag}": ("is", column, tag) for column, tag in pairs})
        found.update({f"not {text}": ("not", test) for text, test in texts[many - 1].items()})
        for first in range(2, many - 2):
            both = itertools.product(texts[first].items(), texts[many - 1 - first].items())
            for ((one, left), (other, right)), word in itertools.product(both, ("and", "or")):
                found[f"{word} {one} {other}"] = (word, left, right)
        texts[many] = found
    return {text: test for found in texts.values() for text, test in found.items()}


class HoldsTest(unittest.TestCase):
    def test_is(self):
        self.assertIs(holds(IS, {"kind": "cat"}), True)
        self.assertIs(holds(IS, {"kind": "dog"}), False)
        self.assertIs(holds(IS, {"kind": None}), False)
        self.assertIs(holds(IS, {}), False)
        self.assertIs(holds(IS, {"people.kind": "cat", "sort": "cat"}), False)
        self.assertIs(holds(("is", "people.kind", "cat"), {"people.kind": "cat", "kind": "dog"}), True)
        self.assertIs(holds(("is", "people.kind", "cat"), {"people.kind": None, "kind": "cat"}), False)
        self.assertIs(holds(("is", "people.kind", "cat"), {"kind": "cat", "people": True}), False)

    def test_has(self):
        self.assertIs(holds(HAS, {"people": True}), True)
        self.assertIs(holds(HAS, {"people": False}), False)
        self.assertIs(holds(HAS, {}), False)
        self.assertIs(holds(HAS, {"places": True, "people.kind": "cat"}), False)

    def test_not(self):
        self.assertIs(holds(("not", HAS), {"people": True}), False)
        self.assertIs(holds(("not", HAS), {"people": False}), True)
        self.assertIs(holds(("not", HAS), {}), True)
        self.assertIs(holds(("not", IS), {"kind": "cat"}), False)
        self.assertIs(holds(("not", IS), {"kind": None}), True)
        self.assertIs(holds(("not", IS), {}), True)

    def test_and_or(self):
        for one, other in itertools.product((True, False, None), repeat=2):
            row = {side: value for side, value in (("a", one), ("b", other)) if value is not None}
            left, right = one is True, other is True
            self.assertIs(holds(("and", ("has", "a"), ("has", "b")), row), left and right)
            self.assertIs(holds(("or", ("has", "a"), ("has", "b")), row), left or right)

    def test_nested(self):
        # Not both or neither: one of the two alone.
        either = ("and", ("or", IS, HAS), ("not", ("and", IS, HAS)))
        for kind, partner in itertools.product(("cat", "dog", None), (True, False)):
            row = {"kind": kind, "people": partner}
            self.assertIs(holds(either, row), (kind == "cat") != partner)

    def test_depths(self):
        for deep in range(1, 8):
            self.assertIs(holds(under_nots(deep - 1), {"people": True}), deep & 1 == 1)
            self.assertIs(holds(chained("and", deep - 1, True), {"kind": "cat", "people": True}), True)
            self.assertIs(holds(chained("and", deep - 1, True), {"kind": "dog", "people": True}), False)
            self.assertIs(holds(chained("or", deep - 1, False), {"kind": "cat", "people": False}), True)
            self.assertIs(holds(chained("or", deep - 1, False), {"kind": None}), False)

    def test_words_of_the_forms_as_names(self):
        self.assertIs(holds(("is", "is", "is"), {"is": "is"}), True)
        self.assertIs(holds(("has", "not"), {"not": True}), True)
        self.assertIs(holds(("not", ("has", "or")), {"or": True}), False)

    def test_by_name(self):
        self.assertIs(holds(test=HAS, row={"people": True}), True)

    def test_the_row_is_not_changed(self):
        for test, _ in FORMS:
            for row in ({}, {"kind": "cat", "people": True}, {"people": False, "a.b": None, "kind": "dog"}):
                before = list(row.items())
                holds(test, row)
                self.assertEqual(list(row.items()), before)


if __name__ == "__main__":
    unittest.main()
