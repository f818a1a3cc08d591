"""Timings: promise [32]."""

import itertools
import random
import unittest

from betweenlooks.errors import BadDeeds, BadKind, BadNumber
from betweenlooks.histories import History
from betweenlooks.timings import Timing
from helpers import ODD_VALUES, ErrorCase, rows_up_to
from lookers import KINDS, LATE


class Timings(ErrorCase):
    def test_attributes(self):
        for most in (None, 0, 1, 10 ** 30):
            for owed in ((), ("a",), ("a", "b"), tuple(f"d{k}" for k in range(20))):
                timing = Timing(most, list(owed))
                self.assertEqual((timing.most, timing.owed), (most, owed))
                self.assertIs(timing.owed.__class__, tuple)
        self.assertEqual((Timing().most, Timing().owed), (None, ()))
        self.assertEqual(Timing(owed=("a",), most=2), Timing(2, ["a"]))

    def test_the_list_may_change_behind(self):
        owed = ["a"]
        timing = Timing(3, owed)
        owed.append("b")
        self.assertEqual(timing, Timing(3, ("a",)))
        self.assertTrue(timing.allows(("b", "b")))

    def test_errors_in_their_order(self):
        for wrong in [-1, 10 ** 30 + 1, True, False, "1", 1.0, (), (1,)]:
            self.assert_error(BadNumber, (wrong,), Timing, wrong)
            self.assert_error(BadNumber, (wrong,), Timing, wrong, ("A",))
        self.assert_error(BadDeeds, (2,), Timing, None, ("a", "b", "a", "A"))
        for odd in ODD_VALUES:
            self.assert_error(BadDeeds, (1,), Timing, 3, ["a", odd])
            self.assert_error(BadDeeds, (0,), Timing, None, (odd, odd))

    def test_equality(self):
        made = [Timing(), Timing(0), Timing(1), Timing(None, ("a",)), Timing(1, ("a",)), Timing(1, ("a", "b")),
                Timing(1, ("b", "a")), Timing(10 ** 30)]
        again = [Timing(timing.most, list(timing.owed)) for timing in made]
        for (i, a), (j, b) in itertools.product(enumerate(made), enumerate(again)):
            self.assertEqual(a == b, i == j)
            self.assertEqual(a != b, i != j)
        for other in [None, (None, ()), 0, "timing"]:
            self.assertFalse(Timing() == other)

    def test_allows(self):
        for most in (None, 0, 1, 2, 3, 10 ** 30):
            for owed in ((), ("a",), ("b", "a"), ("z",)):
                timing = Timing(most, owed)
                for row in rows_up_to("abc", 4):
                    wanted = (most is None or len(row) <= most) and not set(row[:-1]) & set(owed)
                    self.assertIs(timing.allows(row), wanted)
                    self.assertIs(timing.allows(row=list(row)), wanted)

    def test_a_deed_is_owed_to_the_end_of_its_stretch(self):
        timing = Timing(None, ("a",))
        self.assertEqual([timing.allows(tuple(row)) for row in ["", "a", "ba", "ab", "aa", "bbbb"]],
                         [True, True, True, False, False, True])

    def test_kept(self):
        chance = random.Random(32)
        for _ in range(300):
            timing = Timing(chance.choice([None, 0, 1, 2]), chance.sample("ab", chance.randint(0, 2)))
            history = History([chance.choices("abc", k=chance.randint(0, 3)) for _ in range(chance.randint(0, 4))])
            for kind in KINDS:
                rows = history.stretches[1:] if kind in LATE else history.stretches
                self.assertIs(timing.kept(history, kind), all(timing.allows(row) for row in rows))

    def test_the_first_stretch_is_free_for_late_kinds(self):
        timing = Timing(1, ("a",))
        for text, wanted in [("", [True] * 4), ("|", [True] * 4), ("a b a |", [False, False, True, True]),
                             ("a | b b |", [False] * 4), ("b b | a |", [False, False, True, True])]:
            self.assertEqual([timing.kept(history=History.read(text), kind=kind) for kind in KINDS], wanted)

    def test_wrong_kinds(self):
        for odd in ODD_VALUES + ["kept", "Carried", ("carried",)]:
            self.assert_error(BadKind, (odd,), Timing().kept, History.read("a |"), odd)


if __name__ == "__main__":
    unittest.main()
