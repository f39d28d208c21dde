"""The examples at the end of the document."""

import doctest
import unittest

EXAMPLES = r'''
>>> from bothlots.programs import Program
>>> from bothlots.touches import split
>>> program = Program([("person", "name"), ("photo", "name")], [("twice", 2), ("cut", "rounds", 4, (3,))])
>>> [split(program, ("person",)).told(), repr(program), program.many]
['split', 'Program(2 columns, 2 steps)', 2]

>>> from bothlots.keys import settled
>>> from bothlots.programs import Program
>>> program = Program([("person", "name"), ("photo", "name")], [("join", "people", "person"), ("once", ("photo",)), ("cut", "throw")], sides=[("people", "one", [("home", "name")])])
>>> [settled(program, ("person",)), settled(program, ("photo",)), settled(program, ("person",), ("people.home",))]
[['people.home', 'person'], ['people.home', 'person', 'photo'], ['people.home']]

>>> from bothlots.hangs import leak
>>> from bothlots.programs import Program
>>> program = Program.read("main day:tick person:name pulse:worth\nsort day\nnear last pulse person\ncut before day 7\n")
>>> [leak(program, "pulse", "learn").told(), leak(program, "pulse", "judge").told(), len(leak(program, "pulse", "judge").way)]
['tight', 'leak', 2]

>>> from bothlots.ledgers import Ledger
>>> ledger = Ledger(("person",), ("day", "room"))
>>> [ledger.add({"person": "ann"}), ledger.add({"day": "mon", "room": "red"}), ledger.add({"person": "ann", "day": "tue"}), ledger.offer({"day": "mon", "room": "red"}), ledger.group(0)]
['learn', 'judge', 'learn', 'judge', [0, 2]]
'''


class ExamplesTest(unittest.TestCase):
    def test_examples(self):
        test = doctest.DocTestParser().get_doctest(EXAMPLES, {}, "examples", None, 0)
        self.assertEqual(len(test.examples), 15)
        failed, tried = doctest.DocTestRunner().run(test)
        self.assertEqual((failed, tried), (0, 15))


if __name__ == "__main__":
    unittest.main()
