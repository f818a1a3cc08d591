"""The sessions of the document, word for word, and the examples of README.md."""

import doctest
import pathlib
import unittest

README = pathlib.Path(__file__).resolve().parent.parent / "README.md"

ACTS = r"""
>>> from betweenlooks.machines import Machine
>>> from betweenlooks.acts import acts
>>> back = Machine(("f", "r"), [[1, 0], [1, 2], [2, 2]], ["no", "no", "yes"])
>>> [back.told(("f", "r")), back.path(("r", "f", "r")), len(back)]
['yes', [0, 0, 1, 2], 3]
>>> pairs = acts(back)
>>> [len(pairs), pairs[3][0].states, pairs[3][1]]
[5, (2, 2, 2), ('f', 'r')]
"""

LEAST = r"""
>>> from betweenlooks.clashes import clash, suffices
>>> from betweenlooks.facts import Scattered
>>> from betweenlooks.histories import History
>>> from betweenlooks.least import least
>>> from betweenlooks.marks import Lot, Mark
>>> from betweenlooks.questions import Question
>>> asked = Question.of(Scattered(("f", "r")), ("f", "r"))
>>> asked.due(History.read("f | r |"))
['no', 'yes']
>>> trap = Lot([Mark(asked.machine, "cleared")])
>>> [suffices(asked, trap), clash(asked, trap).looks]
[False, 2]
>>> mine = least(asked, "cleared")
>>> [len(mine), mine.rows, len(least(asked, "kept"))]
[5, [(), ('f',), ('r',), ('f', 'r'), ('r', 'f')], 3]
>>> suffices(asked, Lot([mine.mark]))
True
>>> least(Question(asked.machine, "stretch"), "kept").row
('f',)
"""

COPIES = r"""
>>> from betweenlooks.least import least
>>> from betweenlooks.machines import Machine
>>> from betweenlooks.questions import Question
>>> odd = Machine(("a", "b"), [[1, 2], [0, 0], [0, 0]], ["none", "a", "b"])
>>> late = least(Question(odd, "joined"), "kept")
>>> [late.meanings, late.due(0, 2), late.due(3, 1)]
[[(0, 1), (1, 0), (2, 0), (0, 2)], 'b', 'a']
>>> least(Question(odd, "taken"), "kept").row
('a',)
"""

VERSION = r"""
>>> from betweenlooks.clashes import rate
>>> from betweenlooks.facts import Done, Turn
>>> from betweenlooks.marks import Lot, Mark
>>> from betweenlooks.questions import Question
>>> from betweenlooks.timings import Timing
>>> from betweenlooks.watchers import Watcher
>>> version = Lot([Mark(Turn(("x",), 3).machine_for(("x",)), "kept")])
>>> asked = Question.of(Done(("x",)), ("x",), "stretch")
>>> rate(asked, version)[0]
2
>>> watcher = Watcher(asked, version, Timing(2))
>>> [watcher.look(("0",)), watcher.look(("2",)), watcher.look(("2",))]
['no', 'yes', 'no']
"""

CHEAPEST = r"""
>>> from betweenlooks.customary import customary
>>> from betweenlooks.facts import Scattered
>>> from betweenlooks.lots import Cheapest
>>> from betweenlooks.marks import Mark
>>> from betweenlooks.questions import Question
>>> latch = Mark(customary(("f", "r"), "latch r"), "cleared")
>>> chain = Mark(customary(("f", "r"), "chain f , r"), "cleared")
>>> ends = Mark(customary(("f", "r"), "ends f , r"), "cleared")
>>> asked = Question.of(Scattered(("f", "r")), ("f", "r"))
>>> found = Cheapest(asked, [(latch, 1), (chain, 2), (ends, 3)])
>>> [found.choice, found.price]
[(0, 1), 3]
"""

DIGITS = r"""
>>> from betweenlooks.machines import Machine
>>> from betweenlooks.marks import Lot, Mark
>>> from betweenlooks.plans import Plan, calm, fewest_reads
>>> low = Mark(Machine(("a",), [[1], [0]], ["0", "1"]), "kept")
>>> high = Mark(Machine(("a",), [[1], [2], [3], [0]], ["0", "0", "1", "1"]), "kept")
>>> digits = Lot([low, high])
>>> [calm(Plan((0, 1), (0, 1)), digits), fewest_reads(digits, 3) == Plan((0, 1, 0), (0, 1), ((0, 2),))]
[0, True]
"""

DESK = r"""
>>> from betweenlooks.desks import Desk
>>> from betweenlooks.facts import Latest
>>> desk = Desk(("open", "shut"))
>>> desk.put("last", Latest(("open", "shut")), "cleared")
>>> desk.ask("door", Latest(("open", "shut")))
>>> [desk.needs("last"), desk.rate(), len(desk)]
[('door',), (None, None), 2]
>>> desk.page
'deeds open shut\nput last cleared latest(open shut)\nask door carried latest(open shut)'
>>> shift = desk.shift()
>>> shift.happen(("open", "shut", "open"))
>>> [shift.look(), shift.look()]
[(('open',), {'door': 'open'}), (('0',), {'door': 'open'})]
"""


class Sessions(unittest.TestCase):
    def play(self, text, lines):
        session = doctest.DocTestParser().get_doctest(text, {}, "session", None, None)
        self.assertEqual(len(session.examples), lines)
        told = []
        doctest.DocTestRunner().run(session, out=told.append)
        self.assertEqual("".join(told), "")

    def test_acts(self):
        self.play(ACTS, 6)

    def test_least(self):
        self.play(LEAST, 14)

    def test_copies(self):
        self.play(COPIES, 7)

    def test_version(self):
        self.play(VERSION, 11)

    def test_cheapest(self):
        self.play(CHEAPEST, 11)

    def test_digits(self):
        self.play(DIGITS, 7)

    def test_desk(self):
        self.play(DESK, 10)

    def test_the_examples_of_the_readme(self):
        blocks = README.read_text(encoding="utf-8").split("```")[1::2]
        examples = [block for block in blocks if ">>>" in block]
        self.assertEqual(len(examples), 3)
        self.play(examples[0], 7)
        self.play(examples[1], 14)
        # The last ones go on with what the others made.
        self.play("".join(examples), 37)


if __name__ == "__main__":
    unittest.main()
