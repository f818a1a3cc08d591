"""The sessions of the document, word for word, and the examples of README.md."""

import doctest
import pathlib
import unittest

README = pathlib.Path(__file__).resolve().parent.parent / "README.md"

FIRST = """
>>> from betweenlooks.machines import Machine
>>> from betweenlooks.acts import acts
>>> back = Machine(("f", "r"), [[1, 0], [1, 2], [2, 2]], ["no", "no", "yes"])
>>> [back.told(("f", "r")), back.path(("r", "f", "r")), len(back)]
['yes', [0, 0, 1, 2], 3]
>>> pairs = acts(back)
>>> [len(pairs), pairs[3][0].states, pairs[3][1]]
[5, (2, 2, 2), ('f', 'r')]
"""


class Sessions(unittest.TestCase):
    def play(self, text, lines):
        session = doctest.DocTestParser().get_doctest(text, {}, "session", None, None)
        self.assertEqual(len(session.examples), lines)
        told = []
        doctest.DocTestRunner().run(session, out=told.append)
        self.assertEqual("".join(told), "")

    def test_the_first_one(self):
        self.play(FIRST, 6)

    def test_the_examples_of_the_readme(self):
        blocks = README.read_text(encoding="utf-8").split("```")[1::2]
        examples = [block for block in blocks if ">>>" in block]
        self.assertEqual(len(examples), 1)
        self.play(examples[0], 7)


if __name__ == "__main__":
    unittest.main()
