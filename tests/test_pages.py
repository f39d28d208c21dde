"""Pages of shelves, and the rows of tables in columns."""

import random
import unittest

from bothlots.errors import InvalidText, NothingLeft
from bothlots.pages import columns_page, read_page, write_page
from bothlots.programs import Program
from bothlots.shelves import Shelf
from bothlots.tables import Tables
from samples import drawn_program

NEAR = "main a:name t:tick w:worth\nsort t\nnear last w a\ncut before t -3\n"
MARK = "main a:name b:name\nkey a\nside s one h:name k:x/y\nleft s b\nkeep or has s not is s.k x\ncut mark 3 1 a\n"
LEAST = "main a:name\ncut throw\n"
NAMES = "abcdefghijklm"


def shelf_of(*pairs):
    shelf = Shelf(limit=12)
    shelf.apply(*[("put", name, text) for name, text in pairs])
    return shelf


PAGE = f"program a\n{NEAR}end\nprogram bb\n{MARK}end\nprogram c\n{LEAST}end\n"
LINES = PAGE.split("\n")[:-1]


class WriteTest(unittest.TestCase):
    def test_pages(self):
        self.assertEqual(write_page(Shelf()), "")
        self.assertEqual(write_page(shelf_of(("b", LEAST))), "program b\nmain a:name\ncut throw\nend\n")
        self.assertEqual(write_page(shelf_of(("c", LEAST), ("bb", MARK), ("a", NEAR))), PAGE)

    def test_there_and_back(self):
        chance = random.Random(2)
        for many in (0, 1, 2, 12):
            for _ in range(5):
                pairs = [(name, drawn_program(chance).text()) for name in NAMES[:many]]
                chance.shuffle(pairs)
                shelf = shelf_of(*pairs)
                for name, _ in pairs[:1]:
                    shelf.splits(name, shelf.program(name).columns_of("name")[0])
                page = write_page(shelf)
                found = read_page(page)
                self.assertEqual((type(found), found, write_page(found)), (Shelf, shelf, page))
                self.assertEqual((found.limit, found.history(), found.kept(), found.computed, found.busy), (12, (0, 0), [], 0, False))
                with self.assertRaises(NothingLeft):
                    found.undo()

    def test_a_read_shelf_goes_on(self):
        shelf = shelf_of(("a", NEAR), ("c", LEAST))
        found = read_page(write_page(shelf))
        for each in (shelf, found):
            each.apply(("behind", "a", (1,)), ("rename", "c", "b"), ("put", "d", MARK))
            each.undo()
            each.redo()
        self.assertEqual((write_page(found), found.history()), (write_page(shelf), (1, 0)))
        self.assertEqual([found.leaks("a", "w"), found.splits("d", "a")], [shelf.leaks("a", "w"), shelf.splits("d", "a")])
        found.set_limit(3)
        self.assertEqual((found.limit, read_page(write_page(found)).limit), (3, 12))


class WrongTest(unittest.TestCase):
    def refused(self, text, line):
        with self.subTest(text=text), self.assertRaises(InvalidText) as caught:
            read_page(text)
        self.assertEqual((caught.exception.line, caught.exception.code), (line, "InvalidText"))

    def page(self, lines):
        return "".join(line + "\n" for line in lines)

    def test_no_strings(self):
        for value in (None, True, False, 0, 7, (), [], (1,), [PAGE], [[], (1, [2])]):
            self.refused(value, 0)

    def test_the_empty_page(self):
        self.assertEqual(read_page(""), Shelf())
        for text in ("\n", " ", "end\n", "program\n", "program \n", "program A\n", "program a b\n", " program a\n", "program a \n",
                     "program  a\n", "Program a\n", "program toolong\n", "program a.b\n", "main a:name\n", "programa\n", "program a"):
            self.refused(text, 0)
        for line in ("", "end", "program", "program B", "programs b", "main a:name"):
            self.refused(PAGE + line + "\n", len(LINES))

    def test_the_last_line_feed(self):
        for at in range(len(LINES)):
            self.refused(self.page(LINES[:at]) + LINES[at], at)
        self.refused(PAGE + " ", len(LINES))
        self.refused(PAGE + "program d", len(LINES))

    def test_an_end_is_lacking(self):
        starts = [at for at, line in enumerate(LINES) if line.startswith("program")]
        ends = [at for at, line in enumerate(LINES) if line == "end"]
        for at in range(len(LINES)):
            if at not in starts:
                self.refused(self.page(LINES[:at]), at)
        for at in starts:
            self.assertEqual(len(read_page(self.page(LINES[:at]))), starts.index(at))
        # Without its `end` a program goes on with the line that begins the next one.
        for end in ends[:-1]:
            self.refused(self.page(LINES[:end] + LINES[end + 1:]), end)
        self.refused("program a\n", 1)
        self.refused(PAGE + "program d\n", len(LINES) + 1)
        # The steps are not looked at ahead of the `end`, the form of the lines is.
        self.refused("program a\nmain a:name\nsort a\n", 3)
        self.refused("program a\nmain a:name\nsort\n", 2)

    def test_one_line_left_out(self):
        # The lines whose lack is told, with the line that is told.
        expected = {0: 0, 1: 1, 4: 0, 5: 5, 6: 6, 7: 7, 9: 6, 10: 6, 12: 6, 13: 13, 14: 14, 15: 15, 16: 14, 17: 17}
        for at in range(len(LINES)):
            text = self.page(LINES[:at] + LINES[at + 1:])
            self.assertEqual(self.first_wrong(text), expected.get(at), LINES[at])
            self.agrees(text)

    def test_one_line_more_and_lines_exchanged(self):
        for at in range(len(LINES) + 1):
            for line in ("", "x", "end", "program b", "main a:name", "key a", "side u one h:name", "sort t", "cut throw", " end", "end "):
                self.agrees(self.page(LINES[:at] + [line] + LINES[at:]))
        for one in range(len(LINES)):
            for other in range(one):
                lines = list(LINES)
                lines[one], lines[other] = lines[other], lines[one]
                self.agrees(self.page(lines))

    def agrees(self, text):
        """The page is read or refused as the plain words of the document tell."""
        line = self.first_wrong(text)
        if line is None:
            self.assertEqual(write_page(read_page(text)), text)
        else:
            self.refused(text, line)

    def first_wrong(self, text):
        """The index that the document tells for a page, with texts read by Program alone."""
        *lines, rest = text.split("\n")
        at, names = 0, []
        while at < len(lines):
            name = lines[at][8:]
            if not lines[at].startswith("program ") or not name.isalpha() or not name.islower() or len(name) > 6:
                return at
            if names and name <= names[-1] or len(names) == 12:
                return at
            names.append(name)
            end = lines.index("end", at) if "end" in lines[at:] else len(lines)
            body = lines[at + 1:end]
            try:
                Program.read(self.page(body))
            except InvalidText as error:
                if body or end < len(lines):
                    return at + 1 + error.line
            except Exception:
                if end < len(lines):
                    return at
            if end == len(lines):
                return len(lines)
            at = end + 1
        return len(lines) if rest else None

    def test_names_ascend(self):
        for names, line in (("aa", 4), ("ba", 4), ("abb", 8), ("aca", 8), ("acb", 8)):
            self.refused("".join(f"program {name}\n{LEAST}end\n" for name in names), line)
        text = "".join(f"program {name}\n{LEAST}end\n" for name in ("a", "ab", "b", "ba", "bb", "z", "zz"))
        self.assertEqual(read_page(text).names(), ["a", "ab", "b", "ba", "bb", "z", "zz"])

    def test_thirteen_programs(self):
        text = "".join(f"program {name}\n{LEAST}end\n" for name in NAMES[:12])
        self.assertEqual(len(read_page(text)), 12)
        for more in ("program m\n", "program m\nx\n", f"program m\n{LEAST}end\n", "program m"):
            self.refused(text + more, 48)

    def test_no_lines(self):
        self.refused("program a\nend\n", 1)
        self.refused(f"program a\n{LEAST}end\nprogram b\nend\n", 5)

    def test_refused_programs(self):
        for lines in (["main a:name"], ["main a:tick", "cut throw"], ["main a:name", "key b", "cut throw"], ["main a:name", "sort a", "cut throw"],
                      ["main a:name", "side a one h:name", "cut throw"], ["main a:name a:name", "cut throw"],
                      ["main a:name k:x/y/z l:x/y/z m:x/y/z", "cut throw"], ["main a:name", *["all w"] * 13, "cut throw"]):
            page = self.page(["program b", *lines, "end"])
            self.refused(page, 0)
            self.refused(f"program a\n{LEAST}end\n" + page, 4)
            # It is looked at when its `end` is there, ahead of what follows.
            self.refused(page + "x\n", 0)
            self.refused(page + f"program a\n{LEAST}end\n", 0)
            self.refused(page[:-4], len(lines) + 1)
            self.refused(page[:-4] + "x\nend\n", len(lines) + 1)

    def test_wrong_in_a_text(self):
        for lines, at in ((["cut throw"], 0), (["main"], 0), (["main a:name", ""], 1), (["main a:name", "main a:name", "cut throw"], 1),
                          (["main a:name", "cut throw", "key a"], 2), (["main a:name", "key"], 1), (["main a:name", "cut rounds 02 1"], 1),
                          (["main a:name", "program b", "cut throw"], 1), (["main a:name", "cut throw", " end"], 2)):
            self.refused(self.page(["program b", *lines, "end"]), at + 1)


class ColumnsTest(unittest.TestCase):
    def test_columns(self):
        program = Program([("a", "name"), ("w", "worth"), ("t", "tick"), ("k", ("x", "abcdef"))], [("cut", "throw")])
        rows = [("ann", 5, "x"), ("abcdef", -12345678, "abcdef"), ("b", 123456789012345, "x"), ("c", -1, "abcdef"), ("d", 12345678, "x")]
        self.assertEqual(columns_page(Tables(program, rows)), [
            "   0 ann             5 x       ", "   1 abcdef   -12345678 abcdef  ", "   2 b        123456789012345 x       ",
            "   3 c              -1 abcdef  ", "   4 d        12345678 x       "])
        self.assertEqual(columns_page(Tables(program, [])), [])

    def test_many_rows(self):
        program = Program([("t", "tick"), ("a", "name")], [("cut", "throw")])
        found = columns_page(Tables(program, [(at, "z") for at in range(300)]))
        self.assertEqual([found[at] for at in (0, 9, 10, 99, 100, 299)], [
            "   0        0 z       ", "   9        9 z       ", "  10       10 z       ", "  99       99 z       ",
            " 100      100 z       ", " 299      299 z       "])

    def test_sides_do_not_matter(self):
        program = Program([("a", "name")], [("join", "s", "a"), ("cut", "throw")], sides=[("s", "one", [("h", "name")])])
        self.assertEqual(columns_page(Tables(program, [("x",)], {"s": [("x", "y"), ("z", "y")]})), ["   0 x       "])


if __name__ == "__main__":
    unittest.main()
