"""The sessions of the document, word for word, and the examples of README.md."""

import doctest
import pathlib
import unittest

README = pathlib.Path(__file__).resolve().parent.parent / "README.md"

FIRST = """
>>> from betweenlooks.machines import Machine
>>> from betweenlooks.acts import acts
>>> back = Machine(("f", "r"), [[1, 0], [1, 2], [2, 2]], ["no", "no", "yes"])
>>> [back.told(("f", "r")), back.path(("r", "f", "r")), len(back)]
['yes', [0, 0, 1, 2], 3]
>>> pairs = acts(back)
>>> [len(pairs), pairs[3][0].states, pairs[3][1]]
[5, (2, 2, 2), ('f', 'r')]
"""

# Of the other sessions, the lines that need nothing that is still to be written.
SECOND = """
>>> from betweenlooks.clashes import clash, suffices
>>> from betweenlooks.facts import Scattered
>>> from betweenlooks.histories import History
>>> from betweenlooks.marks import Lot, Mark
>>> from betweenlooks.questions import Question
>>> asked = Question.of(Scattered(("f", "r")), ("f", "r"))
>>> asked.due(History.read("f | r |"))
['no', 'yes']
>>> trap = Lot([Mark(asked.machine, "cleared")])
>>> [suffices(asked, trap), clash(asked, trap).looks]
[False, 2]
"""
FOURTH = """
>>> from betweenlooks.clashes import rate
>>> from betweenlooks.facts import Done, Turn
>>> from betweenlooks.marks import Lot, Mark
>>> from betweenlooks.questions import Question
>>> from betweenlooks.timings import Timing
>>> version = Lot([Mark(Turn(("x",), 3).machine_for(("x",)), "kept")])
>>> asked = Question.of(Done(("x",)), ("x",), "stretch")
>>> rate(asked, version)[0]
2
"""


class Sessions(unittest.TestCase):
    def play(self, text, lines):
        session = doctest.DocTestParser().get_doctest(text, {}, "session", None, None)
        self.assertEqual(len(session.examples), lines)
        told = []
        doctest.DocTestRunner().run(session, out=told.append)
        self.assertEqual("".join(told), "")

    def test_the_first_one(self):
        self.play(FIRST, 6)

    def test_the_second_one(self):
        self.play(SECOND, 9)

    def test_the_fourth_one(self):
        self.play(FOURTH, 8)

    def test_the_examples_of_the_readme(self):
        blocks = README.read_text(encoding="utf-8").split("```")[1::2]
        examples = [block for block in blocks if ">>>" in block]
        self.assertEqual(len(examples), 2)
        self.play(examples[0], 7)
        self.play(examples[1], 14)


if __name__ == "__main__":
    unittest.main()
