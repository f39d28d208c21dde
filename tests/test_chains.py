"""The states, the links between them, and which ones cross into a lot: by hand, and by the document's plain words."""

import unittest

import naive
from bothlots.chains import crosses, links, starts
from bothlots.errors import InvalidWord, UnknownColumn
from bothlots.programs import Program

LOTS = ("learn", "judge")


def program_of(*lines):
    return Program.read("".join(line + "\n" for line in lines))


class StartsTest(unittest.TestCase):
    def test_by_hand(self):
        program = program_of("main day:tick person:name pulse:worth", "sort day", "near last pulse person", "cut before day 7")
        self.assertEqual(starts(program), [(2, (), (), ("day", "own", "person"), ("=", "="))])
        program = program_of("main b:name a:x/y h:tick g:tick w:worth", "side s one p:name", "side f many q:r/t",
                             "left s b", "keep not is a x", "fan f s.p", "cut throw")
        self.assertEqual(starts(program), [(3, ("y", "yes"), ("y", "yes"), ("a", "b", "g", "h", "own", "s.p"), ("=", "=", "="))])

    def test_without_partners_and_in_the_order_of_the_looks(self):
        program = program_of("main a:name k:z/y", "side s one t:q/p", "left s a", "cut throw")
        agreed = ("a", "k", "own", "s.t")
        expected = [("z", "yes", "q"), ("z", "yes", "p"), ("z", "no", None), ("y", "yes", "q"), ("y", "yes", "p"), ("y", "no", None)]
        self.assertEqual(starts(program), [(1, look, look, agreed, ("=",)) for look in expected])
        program = program_of("main a:name k:z/y", "side s one t:q/p", "left s a", "keep is s.t p", "cut throw")
        self.assertEqual([state[1] for state in starts(program)], [("z", "yes", "p"), ("y", "yes", "p")])

    def test_no_start(self):
        program = program_of("main a:name k:x/y", "keep is k x", "keep is k y", "cut throw")
        self.assertEqual(starts(program), [])

    def test_one_start_for_each_own_look(self):
        program = program_of("main a:name k:x/y", "side f many q:r/t", "fan f a", "cut throw")
        self.assertEqual([state[1] for state in starts(program)], [("x",), ("y",)])


class LinksTest(unittest.TestCase):
    def linked(self, program, state, worth="w"):
        return links(program, worth, state)

    def test_without_ticks(self):
        program = program_of("main a:name w:worth v:worth", "near last w a", "near next w", "all v a", "cut throw")
        (start,) = starts(program)
        self.assertEqual(self.linked(program, start), [(0, (), (), ("a",), (">",)), (1, (), (), (), ("<",))])
        self.assertEqual(self.linked(program, start, "v"), [(2, (), (), ("a",), ("<",)), (2, (), (), ("a",), (">",))])
        # Only steps ahead of the one of the state, and signs that are unlike give either sign.
        self.assertEqual(self.linked(program, (1, (), (), (), ("<",))), [(0, (), (), (), ("<",)), (0, (), (), (), (">",))])
        self.assertEqual(self.linked(program, (1, (), (), ("a",), (">",))), [(0, (), (), ("a",), (">",))])
        self.assertEqual(self.linked(program, (0, (), (), ("a",), (">",))), [])

    def test_a_key_leaves_no_link(self):
        program = program_of("main a:name w:worth", "key a", "near last w a", "cut throw")
        self.assertEqual(self.linked(program, starts(program)[0]), [])
        program = program_of("main a:name b:name w:worth", "once a", "all w b", "cut throw")
        self.assertEqual(self.linked(program, starts(program)[0]), [(1, (), (), ("b",), ("<",)), (1, (), (), ("b",), (">",))])

    def test_ticks(self):
        program = program_of("main a:name t:tick w:worth", "near last w", "cut throw")
        (start,) = starts(program)
        # Ahead in the main table, with any tick.
        self.assertEqual(self.linked(program, start), [
            (0, (), (), (), ("<", ">")), (0, (), (), (), (">", ">")), (0, (), (), ("t",), ("=", ">"))])
        program = program_of("main a:name t:tick w:worth", "sort t", "near last w", "cut throw")
        self.assertEqual(self.linked(program, starts(program)[0]), [
            (1, (), (), (), (">", "<")), (1, (), (), (), (">", ">")), (1, (), (), ("t",), ("=", ">"))])
        program = program_of("main a:name t:tick w:worth", "near next w", "sort t", "cut throw")
        self.assertEqual(self.linked(program, starts(program)[0]), [
            (0, (), (), (), ("<", "<")), (0, (), (), (), (">", "<")), (0, (), (), ("t",), ("=", "<"))])
        program = program_of("main a:name t:tick w:worth", "sort t", "near next w a t", "cut throw")
        self.assertEqual(self.linked(program, starts(program)[0]), [(1, (), (), ("a", "t"), ("=", "<"))])
        program = program_of("main a:name t:tick w:worth", "sort t", "all w t", "cut throw")
        self.assertEqual(self.linked(program, starts(program)[0]), [
            (1, (), (), ("t",), ("=", "<")), (1, (), (), ("t",), ("=", ">"))])
        program = program_of("main a:name t:tick w:worth", "key t", "sort t", "near next w a", "cut throw")
        self.assertEqual(self.linked(program, starts(program)[0]), [
            (1, (), (), ("a",), ("<", "<")), (1, (), (), ("a",), ("<", ">"))])

    def test_two_ticks(self):
        program = program_of("main a:name t:tick u:tick w:worth", "sort t", "sort u", "near last w t", "cut throw")
        # By u, with equal u by t, which is equal, then by the main table.
        self.assertEqual(self.linked(program, starts(program)[0]), [
            (2, (), (), ("t",), ("=", ">", "<")), (2, (), (), ("t",), ("=", ">", ">")), (2, (), (), ("t", "u"), ("=", "=", ">"))])
        program = program_of("main a:name t:tick u:tick w:worth", "sort t", "sort u", "sort t", "near last w", "cut throw")
        found = {state[4] for state in self.linked(program, starts(program)[0])}
        due = {(">", u, m) for u in "<=>" for m in "<>"} | {("=", ">", m) for m in "<>"} | {("=", "=", ">")}
        self.assertEqual(found, due)

    def test_composed_orders(self):
        program = program_of("main a:name t:tick w:worth", "near next w a", "cut throw")
        # `<` and `>` give any sign for a tick.
        state = (1, (), (), (), ("<", ">"))
        self.assertEqual(self.linked(program, state), [
            (0, (), (), (), ("<", "<")), (0, (), (), (), ("<", ">")), (0, (), (), (), (">", "<")), (0, (), (), (), (">", ">")),
            (0, (), (), ("t",), ("=", "<")), (0, (), (), ("t",), ("=", ">"))])
        state = (1, (), (), ("a", "t"), ("=", "<"))
        self.assertEqual(self.linked(program, state), [
            (0, (), (), ("a",), ("<", "<")), (0, (), (), ("a",), (">", "<")), (0, (), (), ("a", "t"), ("=", "<"))])

    def test_a_key_bars_what_two_links_force(self):
        program = program_of("main a:name t:tick w:worth", "key a t", "all w a", "cut throw")
        state = (1, (), (), ("a",), ("<", "<"))
        found = self.linked(program, state)
        # With equal ticks the first and the third row would be one, as both agree in the key.
        self.assertEqual({new[4] for new in found}, {(sign, m) for sign in "<>" for m in "<>"})
        self.assertEqual({new[3] for new in found}, {("a",)})

    def test_a_key_bars_unlike_looks(self):
        program = program_of("main a:name t:tick k:x/y w:worth", "key a t", "all w a", "cut throw")
        state = (1, ("x",), ("x",), ("a", "k"), ("<", "<"))
        found = self.linked(program, state)
        # Rows of unlike looks agree neither in both columns of the key.
        self.assertEqual({new[2:4] for new in found}, {(("x",), ("a", "k")), (("y",), ("a",))})
        self.assertEqual({new[4][0] for new in found}, {"<", ">"})

    def test_looks(self):
        program = program_of("main a:name k:x/y w:worth", "near last w a", "keep is k x", "all w k", "cut throw")
        (start,) = starts(program)
        self.assertEqual(start[1], ("x",))
        self.assertEqual(self.linked(program, start), [
            (0, ("x",), ("x",), ("a", "k"), (">",)), (0, ("x",), ("y",), ("a",), (">",)),
            (2, ("x",), ("x",), ("k",), ("<",)), (2, ("x",), ("x",), ("k",), (">",))])
        program = program_of("main a:name k:x/y w:worth", "key a k", "near last w a", "cut throw")
        first = (1, ("x",), ("x",), ("a", "k", "own"), ("=",))
        self.assertEqual(self.linked(program, first), [(0, ("x",), ("y",), ("a",), (">",))])
        self.assertEqual(self.linked(program, (1, ("x",), ("y",), ("a",), (">",))), [])

    def test_sides(self):
        program = program_of("main a:name w:worth", "side s one h:name", "left s a", "near last w s.h", "cut throw")
        yes, no = starts(program)
        self.assertEqual(self.linked(program, yes), [(1, ("yes",), ("yes",), ("s.h",), (">",))])
        # None equals None, and all columns of a side without a partner are so.
        self.assertEqual(self.linked(program, no), [(1, ("no",), ("no",), ("s.h",), (">",))])
        program = program_of("main a:name w:worth", "side s one h:name", "left s a", "near last w", "cut throw")
        self.assertEqual(self.linked(program, starts(program)[0]), [
            (1, ("yes",), ("no",), (), (">",)), (1, ("yes",), ("yes",), (), (">",))])
        # Agreed again in the first and the third row, as neither has a partner; None counts as the empty string.
        program = program_of("main a:name w:worth", "side s one h:name t:q", "near last w", "left s a", "cut throw")
        self.assertEqual(self.linked(program, (2, ("no", None), ("yes", "q"), (), ("<",))), [
            (0, ("no", None), ("no", None), ("s.h", "s.t"), ("<",)), (0, ("no", None), ("no", None), ("s.h", "s.t"), (">",)),
            (0, ("no", None), ("yes", "q"), (), ("<",)), (0, ("no", None), ("yes", "q"), (), (">",))])

    def test_a_fan_stays_out(self):
        program = program_of("main a:name w:worth", "side f many p:name q:r", "all w a", "fan f a", "cut throw")
        self.assertEqual(starts(program), [(2, (), (), ("a", "own"), ("=",))])
        self.assertEqual(self.linked(program, starts(program)[0]), [(0, (), (), ("a",), ("<",)), (0, (), (), ("a",), (">",))])

    def test_unknown_worths(self):
        program = program_of("main a:name w:worth", "all w a", "cut throw", "all w")
        (start,) = starts(program)
        for worth in ("a", "own", "", "v", None, True, 1, ("w",), ["w"], [], ()):
            with self.subTest(worth=worth), self.assertRaises(UnknownColumn) as caught:
                links(program, worth, start)
            self.assertEqual((type(caught.exception.name), caught.exception.name), (type(worth), worth))
        # A step behind the cut makes no link.
        self.assertEqual({state[0] for state in links(program, "w", start)}, {0})

    def test_against_the_plain_words(self):
        for program in naive.programs():
            self.assertEqual(starts(program), naive.starts(program))
            for worth in program.columns_of("worth"):
                found = list(naive.reached(program, worth))
                for state in found[::1 + len(found) // 150]:
                    with self.subTest(program=program.text(), state=state):
                        self.assertEqual(links(program, worth, state), naive.links(program, worth, state))


class CrossesTest(unittest.TestCase):
    def crossed(self, program, state):
        return [crosses(program, state, lot) for lot in LOTS]

    def test_starts_do_not(self):
        for program in naive.programs():
            for start in starts(program):
                self.assertEqual(self.crossed(program, start), [False, False])

    def test_before(self):
        program = program_of("main a:name t:tick w:worth", "sort t", "near last w", "cut before t 7")
        self.assertEqual(self.crossed(program, (1, (), (), (), (">", "<"))), [False, True])
        self.assertEqual(self.crossed(program, (1, (), (), (), ("<", ">"))), [True, False])
        self.assertEqual(self.crossed(program, (1, (), (), ("t",), ("=", ">"))), [False, False])

    def test_share(self):
        program = program_of("main a:name t:tick u:tick w:worth", "all w", "sort t", "sort u", "cut share 1 2")
        for order, earlier in ((("<", "<", "<"), True), (("<", ">", "<"), False), (("<", "=", ">"), True), (("=", "=", ">"), False),
                               ((">", "=", "<"), False), (("=", "=", "<"), True), ((">", "<", ">"), True)):
            agreed = tuple(name for name, sign in zip("tu", order) if sign == "=")
            self.assertEqual(self.crossed(program, (0, (), (), agreed, order)), [earlier, not earlier])

    def test_throw_and_rounds(self):
        for cut in ("cut throw", "cut rounds 3 1"):
            program = program_of("main a:name w:worth", "all w a", cut)
            self.assertEqual(self.crossed(program, (0, (), (), ("a",), ("<",))), [True, True])

    def test_mark_and_groups(self):
        for form in ("mark", "groups"):
            program = program_of("main a:name b:name w:worth", "all w a", f"cut {form} 3 1 a b")
            self.assertEqual(self.crossed(program, (0, (), (), ("a",), ("<",))), [True, True])
            self.assertEqual(self.crossed(program, (0, (), (), ("a", "b"), ("<",))), [False, False])

    def test_both_rows_come_to_the_cut(self):
        program = program_of("main a:name k:x/y w:worth", "all w a", "keep is k x", "cut throw")
        self.assertEqual(self.crossed(program, (0, ("x",), ("y",), ("a",), ("<",))), [False, False])
        self.assertEqual(self.crossed(program, (0, ("x",), ("x",), ("a", "k"), ("<",))), [True, True])

    def test_tags_of_the_fan(self):
        state = (0, (), (), ("a",), ("<",))
        for tags, expected in (("r", [False, False]), ("r/s", [True, True])):
            program = program_of("main a:name w:worth", f"side f many q:{tags}", "all w a", "fan f a", "cut mark 2 1 a f.q")
            self.assertEqual(self.crossed(program, state), expected)
        program = program_of("main a:name w:worth", "side f many p:name", "all w a", "fan f a", "cut mark 2 1 a f.p")
        self.assertEqual(self.crossed(program, state), [True, True])

    def test_wrong_lots(self):
        program = program_of("main a:name w:worth", "all w a", "cut throw")
        for lot in ("both", "", "Learn", None, True, 0, ("learn",), ["judge"], []):
            for state in (starts(program)[0], (0, (), (), ("a",), ("<",))):
                with self.subTest(lot=lot), self.assertRaises(InvalidWord) as caught:
                    crosses(program, state, lot)
                self.assertEqual((type(caught.exception.given), caught.exception.given), (type(lot), lot))

    def test_against_the_plain_words(self):
        for program in naive.programs():
            for worth in program.columns_of("worth"):
                found = list(naive.reached(program, worth))
                for state in found[::1 + len(found) // 150]:
                    for lot in LOTS:
                        self.assertEqual(crosses(program, state, lot), naive.crosses(program, state, lot))


if __name__ == "__main__":
    unittest.main()
