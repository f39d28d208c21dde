"""The names and the rows of tables that are made to show something."""

import itertools
import unittest

from bothlots.programs import Program
from bothlots.rules import last_looks
from bothlots.runs import Run
from bothlots.ways import _ranks
from bothlots.witness import Names, Scene, pair_scene
from bothlots.words import is_name


class NamesTest(unittest.TestCase):
    def test_names(self):
        names = Names()
        found = [names.fresh() for _ in range(20000)]
        self.assertTrue(all(is_name(name) for name in found))
        self.assertEqual(len(set(found)), 20000)
        self.assertEqual((found[0], found[25], found[26], found[701], found[702]), ("a", "z", "aa", "zz", "aaa"))


class SceneTest(unittest.TestCase):
    program = Program.read("main a:name t:tick u:tick k:x/y w:worth\nkey t k\nside s one h:name q:p/r\nside f many p:name\n"
                           "left s a\nsort t\nsort u\nfan f s.h\ncut share 1 3\n")

    def test_pairs(self):
        """Two rows of two looks agree in the forced columns alone."""
        looks = last_looks(self.program)
        columns = [name for name in self.program.columns() if not name.startswith("f.")]
        for look in looks:
            for other in looks:
                agreed = [name for name, one, two in zip(("k", "s", "s.q"), look, other) if one == two and name != "s"]
                scene, places = pair_scene(self.program, look, other, agreed)
                run = Run(self.program, scene.built(0, 0))
                self.assertEqual((places, sorted(own for own, _ in run.rows())), ([0, 1], [0, 1]))
                same = [name for name in columns if run.value(0, name) == run.value(1, name)]
                self.assertEqual(sorted(same), sorted(agreed))

    def test_further_rows(self):
        """They come to the cut, ahead of the others and behind them, in each order."""
        look = last_looks(self.program)[0]
        scene, _ = pair_scene(self.program, look, look, ["k", "s.q", "u"])
        for ahead in range(4):
            for behind in range(4):
                tables = scene.built(ahead, behind)
                run = Run(self.program, tables)
                self.assertEqual([own for own, _ in run.at_cut()], list(range(ahead + 2 + behind)))
                names = [row[0] for row in tables.rows()]
                self.assertEqual(len(set(names)), len(names))

    def test_cast(self):
        look = last_looks(self.program)[0]
        scene = Scene(self.program, look)
        one = scene.cast(("x", "yes", "p"))
        two = scene.cast(("y", "no", None), one, ["a", "s.h"])
        self.assertEqual((one["k"], one["s"], one["s.q"]), ("x", "yes", "p"))
        self.assertEqual((two["a"], two["s.h"], two["s.q"]), (one["a"], None, None))
        self.assertNotEqual(two["f.p"], one["f.p"])


class RanksTest(unittest.TestCase):
    def test_ranks_have_these_signs(self):
        for many in range(6):
            for link_signs in itertools.product("<=>", repeat=many):
                for signs in self.composed(link_signs):
                    self.check(_ranks(link_signs, signs), link_signs, signs)

    def composed(self, link_signs):
        """All signs of the first row with each other one."""
        found = [("=",)]
        for sign in link_signs:
            found = [(*signs, more) for signs in found for more in self.joined(signs[-1], sign)]
        return [signs[1:] for signs in found]

    def joined(self, one, other):
        return other if one == "=" else one if other in ("=", one) else "<>"

    def check(self, ranks, link_signs, signs):
        def sign(one, other):
            return "=" if one == other else "<" if one < other else ">"

        self.assertEqual(tuple(sign(one, other) for one, other in zip(ranks, ranks[1:])), link_signs)
        self.assertEqual(tuple(sign(ranks[0], other) for other in ranks[1:]), signs)
        # Two ranks are equal only where all links between are so.
        for one, other in itertools.combinations(range(len(ranks)), 2):
            self.assertEqual(ranks[one] == ranks[other], set(link_signs[one:other]) == {"="})


if __name__ == "__main__":
    unittest.main()
