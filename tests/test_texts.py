"""The text of a program: writing, reading, and the line that is told of a wrong text."""

import unittest

from bothlots.errors import InvalidColumn, InvalidKey, InvalidSide, InvalidStep, InvalidText, TooMany
from bothlots.programs import Program

MAIN = "main person:name day:tick kind:cat/dog sole:x pulse:worth"
SIDES = ["side people one home:name far:near/far", "side homes one owner:name", "side visits many place:name long:yes/no"]
FULL = [
    MAIN,
    "key person day",
    *SIDES,
    "keep or is kind cat not is sole x",
    "join people person",
    "left homes people.home",
    "keep and has homes is people.far near",
    "sort day",
    "once person people.home",
    "near last pulse",
    "all pulse kind people.far",
    "twice 2",
    "fan visits people.home",
    "cut groups 12 0,3,11 person visits.long",
    "once day visits.place",
]
STEPS = (
    (("keep", ("is", "kind", "cat")), "keep is kind cat"),
    (("keep", ("not", ("or", ("is", "kind", "cat"), ("is", "sole", "x")))), "keep not or is kind cat is sole x"),
    (("join", "people", "person"), "join people person"),
    (("left", "people", "person"), "left people person"),
    (("sort", "day"), "sort day"),
    (("once", ("person",)), "once person"),
    (("once", ("kind", "person")), "once kind person"),
    (("near", "pulse", "last", ()), "near last pulse"),
    (("near", "pulse", "next", ("person", "kind")), "near next pulse person kind"),
    (("all", "pulse", ()), "all pulse"),
    (("all", "pulse", ("day",)), "all pulse day"),
    (("twice", 2), "twice 2"),
    (("twice", 3), "twice 3"),
    (("fan", "visits", "person"), "fan visits person"),
)
CUTS = (
    (("cut", "rounds", 4, (3,)), "cut rounds 4 3"),
    (("cut", "rounds", 12, (0, 5, 11)), "cut rounds 12 0,5,11"),
    (("cut", "throw"), "cut throw"),
    (("cut", "mark", ("person",), 3, (0, 2)), "cut mark 3 0,2 person"),
    (("cut", "mark", ("kind", "day"), 2, (1,)), "cut mark 2 1 kind day"),
    (("cut", "before", "day", 7), "cut before day 7"),
    (("cut", "before", "day", 0), "cut before day 0"),
    (("cut", "before", "day", -999999999999), "cut before day -999999999999"),
    (("cut", "share", 4, 5), "cut share 4 5"),
    (("cut", "groups", ("person", "kind"), 10, (9,)), "cut groups 10 9 person kind"),
)
PLAIN = "main person:name kind:cat/dog day:tick sole:x pulse:worth"


def joined(lines):
    return "".join(line + "\n" for line in lines)


class TextTest(unittest.TestCase):
    def refused(self, text, line):
        with self.subTest(text=text), self.assertRaises(InvalidText) as caught:
            Program.read(text)
        if isinstance(text, str):
            with self.subTest(text=text):
                self.assertEqual(caught.exception.line, line)
        else:
            self.assertIs(caught.exception.line, 0)

    def line_refused(self, line, ahead=(PLAIN, "side people one home:name", "sort day")):
        """A line is refused where a step may stand, whatever stands behind it."""
        for behind in (["cut throw"], ["cut throw", "wrong"], []):
            self.refused(joined([*ahead, line, *behind]), len(ahead))


class WriteTest(unittest.TestCase):
    def test_each_step(self):
        main = [("person", "name"), ("day", "tick"), ("kind", ("cat", "dog")), ("sole", ("x",)), ("pulse", "worth")]
        sides = [("people", "one", [("home", "name"), ("far", ("near", "far"))]),
                 ("homes", "one", [("owner", "name")]),
                 ("visits", "many", [("place", "name"), ("long", ("yes", "no"))])]
        for step, line in STEPS:
            with self.subTest(line=line):
                program = Program(main, [step, ("cut", "throw")], sides=sides)
                self.assertEqual(program.text(), joined([MAIN, *SIDES, line, "cut throw"]))
                self.assertEqual(Program.read(program.text()), program)
        for cut, line in CUTS:
            with self.subTest(line=line):
                program = Program(main, [cut], unique=("day", "person"))
                self.assertEqual(program.text(), joined([MAIN, "key day person", line]))
                self.assertEqual(Program.read(program.text()), program)

    def test_there_and_back(self):
        text = joined(FULL)
        program = Program.read(text)
        self.assertEqual(program.text(), text)
        self.assertEqual(Program.read(program.text()), program)
        self.assertEqual(program.unique, ("person", "day"))
        self.assertEqual([side[0] for side in program.sides], ["people", "homes", "visits"])
        self.assertEqual(program.step(0), ("keep", ("or", ("is", "kind", "cat"), ("not", ("is", "sole", "x")))))
        self.assertEqual(program.step(10), ("cut", "groups", ("person", "visits.long"), 12, (0, 3, 11)))


class ReadTest(TextTest):
    def test_no_string(self):
        for value in (None, True, False, 0, 5, (), [], ("main a:name",), ["main a:name\n"], b"main"):
            self.refused(value, 0)

    def test_first_line(self):
        for text in ("", "\n", "main", "main\n", "main ", "mainly a:name\n", "cut throw\n", "key a\n", "main a:name",
                     " main a:name\n", "main a:name \n", "\nmain a:name\n", "Main a:name\n", "main a\n", "side a one b:name\n"):
            self.refused(text, 0)

    def test_last_line_feed(self):
        for many in range(len(FULL)):
            self.refused(joined(FULL[:many]) + FULL[many], many)
        self.refused(joined(FULL) + "x", len(FULL))
        self.refused(joined(FULL) + " ", len(FULL))
        self.refused(joined(FULL) + "\n", len(FULL))
        # A wrong line ahead of the lacking line feed counts.
        self.refused(joined(FULL[:3]) + "wrong\n" + "cut throw", 3)

    def test_one_word_put_in_or_changed(self):
        for at, line in enumerate(FULL):
            words = line.split(" ")
            for k in range(len(words)):
                for fresh in (["Word"], [""], ["a.b.c"], ["sevenly"], ["-"], [words[k], ""]):
                    changed = [*words[:k], *fresh, *words[k + 1:]]
                    self.refused(joined([*FULL[:at], " ".join(changed), *FULL[at + 1:]]), at)
            for other in (line + " ", " " + line, line.replace(" ", "  ", 1), line.replace(" ", "\t", 1), line.upper(),
                          "", words[0] + line, line + " :", line + ","):
                self.refused(joined([*FULL[:at], other, *FULL[at + 1:]]), at)

    def test_columns(self):
        for word in ("person", "person:", ":name", "person:name:tick", "person:Name", "per.son:name", "person:cat/",
                     "person:/cat", "person:cat//dog", "person:cat,dog", "person:ca1", "person: name", "sevenly:name",
                     "person:sevenly", "person:a.b", "1:name", "person:one/two/sevenly"):
            for line in ("main " + word, "main a:name " + word, "main " + word + " a:name"):
                self.refused(joined([line, "cut throw"]), 0)
            for line in ("side people one " + word, "side people one a:name " + word):
                self.refused(joined([PLAIN, line, "cut throw"]), 1)

    def test_key_lines(self):
        for line in ("key", "key ", "key Person", "key person ", "key a.b.c", "key .a", "key person,day", "keys person"):
            self.refused(joined([PLAIN, line, "cut throw"]), 1)
        # These words are of the form of a column, so the program refuses them.
        for key in ("own", "people.home", "person person", "none", "pulse"):
            with self.assertRaises(InvalidKey) as caught:
                Program.read(joined([PLAIN, "key " + key, "side people one home:name", "cut throw"]))
            self.assertEqual(caught.exception.given, tuple(key.split(" ")))

    def test_side_lines(self):
        for line in ("side", "side people", "side people one", "side people one ", "side one home:name", "sides p one a:name",
                     "side people two home:name", "side People one home:name", "side people One home:name",
                     "side a.b one home:name", "side people one home", "side one people home:name"):
            self.refused(joined([PLAIN, line, "cut throw"]), 1)

    def test_order_of_lines(self):
        side = "side people one home:name"
        self.refused(joined([PLAIN, side, "key person", "cut throw"]), 2)
        self.refused(joined([PLAIN, "key person", "key person", "cut throw"]), 2)
        self.refused(joined([PLAIN, "sort day", "key person", "cut throw"]), 2)
        self.refused(joined([PLAIN, "sort day", side, "cut throw"]), 2)
        self.refused(joined([PLAIN, "cut throw", side]), 2)
        self.refused(joined([PLAIN, PLAIN, "cut throw"]), 1)
        self.refused(joined([PLAIN, side, "cut throw", PLAIN]), 3)
        self.refused(joined([PLAIN, "key person", side, "cut throw", "key person"]), 4)
        self.assertEqual(len(Program.read(joined([PLAIN, "key person", side, "cut throw"])).sides), 1)


class StepLinesTest(TextTest):
    def test_unknown_words(self):
        for line in ("", " ", "wrong", "cuts throw", "kept is kind cat", "program a", "end", "sort", "near", "all", "twice",
                     "fan", "once", "keep", "join", "left", "cut", "Sort day", "sort:day"):
            self.line_refused(line)

    def test_words_left_out_put_in_exchanged(self):
        lines = (
            "keep is kind", "keep is cat", "keep is kind cat dog", "keep kind is cat", "keep not", "keep and has people",
            "keep not and has people", "keep or has people has people has people", "keep has", "keep has a.b",
            "keep is a.b.c cat", "keep is kind a.b", "keep", "keep ", "keep has people ", "keep is  kind cat",
            "join people", "join person", "join people person day", "join people.home person", "join people a.b.c",
            "left people", "left people person day", "left people.home person", "left", "fan visits", "fan visits.a person",
            "fan visits person day", "fan visits Person", "sort day day", "sort", "sort 1", "sort day.a.b", "once",
            "once Person", "once person ", "once person,day", "near last", "near pulse last", "near pulse", "near first pulse",
            "near last pulse.a", "near last pulse Person", "near last pulse ", "near lastpulse", "near Last pulse person",
            "near next", "all", "all pulse.a", "all last pulse 1", "all pulse ", "all Pulse person", "twice two", "twice 2 2",
            "twice", "twice ", "twice 2 ", "twice person", "cut Throw", "cut throw 1", "cut", "cut rounds", "cut rounds 4",
            "cut rounds 4 3 person", "cut rounds 3,4", "cut rounds 4 3 1", "cut 4 3", "cut rounds x 3", "cut rounds 4 x",
            "cut mark 4 3", "cut mark person 4 3", "cut mark 4 person", "cut mark 4 3 Person", "cut mark 4 3 person ",
            "cut mark", "cut groups 4 3", "cut groups person 4 3", "cut groups 4 person 3", "cut groups", "cut before day",
            "cut before 7 day", "cut before day 7 7", "cut before 7", "cut before Day 7", "cut before day seven",
            "cut before day.a.b 7", "cut share 1", "cut share 1 2 3", "cut share", "cut share 1,2", "cut share a b",
            "cut share 1  2", "cut other 1",
        )
        for line in lines:
            self.line_refused(line)

    def test_numbers(self):
        for number in ("02", "00", "-0", "-00", "-02", "+2", "2.0", "2_0", "--2", "-", "", "1234567890123456",
                       "-1234567890123456", "0x2", "2-", "two", "1 000", "1,2"):
            for line in ("twice {}", "cut rounds {} 1", "cut mark {} 1 person", "cut before day {}", "cut share {} 12",
                         "cut share 1 {}", "cut groups {} 1 person"):
                self.line_refused(line.format(number))
        for rests in ("", ",", "1,", ",1", "1,,2", "01", "-0", "1,02", "1;2", "1234567890123456", "1, 2", "x", "1,x"):
            for line in ("cut rounds 4 {}", "cut mark 4 {} person", "cut groups 4 {} person"):
                self.line_refused(line.format(rests))

    def test_numbers_of_the_form(self):
        """These are refused by the program, not by the text."""
        for number in ("0", "-1", "5", "123456789012345", "-123456789012345", "10"):
            for line in ("twice {}", "cut share {} 3", "cut rounds {} 5,17", "cut mark {} 0 day person none"):
                with self.subTest(line=line, number=number), self.assertRaises(InvalidStep) as caught:
                    Program.read(joined([PLAIN, "sort day", line.format(number), "cut throw"]))
                self.assertEqual(caught.exception.at, 1)
        with self.assertRaises(InvalidStep):
            Program.read(joined([PLAIN, "cut before day 1000000000000"]))
        self.assertEqual(Program.read(joined([PLAIN, "cut before day -999999999999"])).step(0)[3], -999999999999)
        for rests in ("1,0", "1,1", "-1", "4", "0,1,2,3", "123456789012345"):
            with self.assertRaises(InvalidStep):
                Program.read(joined([PLAIN, "cut rounds 4 " + rests]))

    def test_depth_of_tests(self):
        six = "keep " + "not " * 5 + "is kind cat"
        self.assertEqual(Program.read(joined([PLAIN, six, "cut throw"])).text(), joined([PLAIN, six, "cut throw"]))
        self.line_refused("keep " + "not " * 6 + "is kind cat")
        self.line_refused("keep or has people " + "not " * 5 + "has people")


class OnlyRefusedByTheProgramTest(TextTest):
    """Lines of their form with what [3] to [8] refuse."""

    lines = ("sort person", "twice 9", "join none person", "keep is kind cow", "keep has none", "once kind", "near last day",
             "cut throw", "cut before person 7", "cut share 7 3", "fan people person", "all heat own", "sort own",
             "join own people.home", "keep is own own", "near next own own", "once own", "cut mark 99 7 a.b")

    def test_wrong_line_behind(self):
        head = [PLAIN, "side people one home:name", "side people one home:name"]
        for line in self.lines:
            for wrong in ("wrong", "cut", "twice 02", "main a:name", "side b one c:name", "key person", ""):
                self.refused(joined([*head, line, "cut throw", "cut throw", wrong, "cut throw"]), 6)
            self.refused(joined([*head, line]) + "cut throw", 4)

    def test_errors_of_the_program(self):
        for line in self.lines:
            if line != "cut throw":
                with self.assertRaises(InvalidStep) as caught:
                    Program.read(joined([PLAIN, "sort day", line, "cut throw"]))
                self.assertEqual(caught.exception.at, 1)
        cases = (
            (["main own:name", "cut throw"], InvalidColumn, 0),
            (["main a:tick", "cut throw"], InvalidColumn, 1),
            (["main a:name b:name/x", "cut throw"], InvalidColumn, 1),
            (["main a:name b:x/x", "cut throw"], InvalidColumn, 1),
            (["main a:name b:w/x/y/z", "cut throw"], InvalidColumn, 1),
            (["main a:name a:name", "cut throw"], InvalidColumn, 1),
            (["main a:name b:name c:name d:name e:name f:name g:name", "cut throw"], InvalidColumn, 7),
            (["main a:name", "side b one c:tick", "cut throw"], InvalidSide, 0),
            (["main a:name", "side c one c:name", "side b many own:x", "cut throw"], InvalidSide, 1),
            (["main a:name", "side a many c:x", "cut throw"], InvalidSide, 0),
            (["main a:name", "side b one c:name d:name e:name f:name", "cut throw"], InvalidSide, 0),
            (["main a:name", *[f"side {name} one c:name" for name in "bcde"], "cut throw"], InvalidSide, 4),
            (["main a:name"], InvalidStep, 0),
            (["main a:name", "twice 2"], InvalidStep, 1),
            (["main a:name", *["twice 2"] * 2, *["cut throw"] * 9], InvalidStep, 3),
            (["main a:name b:x/y/z c:x/y/z d:x/y/z", "cut throw"], TooMany, 24),
        )
        for lines, error, told in cases:
            with self.subTest(lines=lines), self.assertRaises(error) as caught:
                Program.read(joined(lines))
            self.assertIn(told, vars(caught.exception).values())


if __name__ == "__main__":
    unittest.main()
