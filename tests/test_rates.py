"""Rates: promise [37], with [32] to [36] for what it rests on."""

import random
import time
import unittest

from betweenlooks.clashes import clash, rate, suffices
from betweenlooks.errors import BadDeeds, NoDeed, OtherDeeds, TooMany
from betweenlooks.facts import Count, Done, Latest, Turn
from betweenlooks.machines import Machine
from betweenlooks.marks import Lot, Mark
from betweenlooks.questions import Question
from betweenlooks.timings import Timing
from helpers import BACK, ODD_VALUES, ErrorCase, ring
from lookers import (
    KINDS, count_places, fewest_looks, showing, some_close_lot, some_lot, some_mark, some_question, some_table,
)

AB, X = ("a", "b"), ("x",)


def greatest(question, lot, owed):
    """The rate, with one timing after the other."""
    if fewest_looks(question, lot, Timing(None, owed)) is None:
        return None
    most = 0
    while fewest_looks(question, lot, Timing(most + 1, owed)) is None:
        most += 1
    return most


class Rates(ErrorCase):
    def assert_rate(self, question, lot, owed=()):
        most, found = rate(question, lot, owed=owed)
        self.assertEqual(most, greatest(question, lot, owed))
        if most is None:
            self.assertIsNone(found)
            self.assertTrue(suffices(question, lot, Timing(None, owed)))
            self.assertTrue(suffices(question, lot, Timing(10 ** 30, owed)))
        else:
            self.assertTrue(suffices(question, lot, Timing(most, owed)))
            self.assertTrue(found.shows(question, lot, Timing(most + 1, owed)))
            self.assertFalse(suffices(question, lot, Timing(10 ** 30, owed)))
        return most

    def test_version_numbers(self):
        asked = Question.of(Done(X), X, "stretch")
        for modulus in range(1, 30):
            version = Lot([Mark(Turn(X, modulus).machine_for(X), "kept")])
            begin = time.monotonic()
            most, found = rate(asked, version)
            self.assertEqual(most, modulus - 1)
            self.assertTrue(found.shows(asked, version, Timing(modulus)))
            self.assertEqual(clash(asked, version, Timing(modulus)).looks, found.looks)
            self.assertLess(time.monotonic() - begin, 5)
            self.assertEqual(rate(asked, version, owed=X)[0], None if modulus > 1 else 0)

    def test_as_many_deeds_as_there_are_places(self):
        """Only after 59 deeds the answer changes."""
        counted = Count(X, 59).machine_for(X)
        far = Machine(X, counted.rows, ["no"] * 59 + ["yes"])
        self.assertEqual(self.assert_rate(Question(far, "stretch"), Lot([])), 58)
        self.assertEqual(self.assert_rate(Question(far), Lot([])), 0)
        self.assertEqual(self.assert_rate(Question(ring(60, far.tells, X), "stretch"), Lot([])), 58)
        wide = Machine(AB, [[k, min(k + 1, 59)] for k in range(60)], ["no"] * 59 + ["yes"])
        self.assertEqual(rate(Question(wide, "stretch"), Lot([]))[0], 58)

    def test_an_owed_deed_at_the_end_of_the_longest_stretch(self):
        """a leads on 58 times, b leads on only from there."""
        rows = [[min(k + 1, 58), 59 if k == 58 else k] for k in range(59)] + [[59, 59]]
        far = Question(Machine(AB, rows, ["no"] * 59 + ["yes"]), "stretch")
        for owed in ((), ("b",)):
            most, found = rate(far, Lot([]), owed=owed)
            self.assertEqual(most, 58)
            self.assertTrue(found.shows(far, Lot([]), Timing(59, owed)))
            self.assertFalse(found.shows(far, Lot([]), Timing(58, owed)))
        self.assertEqual(rate(far, Lot([]), owed=("a",)), (None, None))

    def test_by_chance(self):
        chance = random.Random(37)
        seen = {}
        for number in range(500):
            question = Question(some_table(chance, AB, chance.randint(1, 4), ("no", "yes")), chance.choice(KINDS))
            lot = some_close_lot(chance, question) if number % 2 else some_lot(chance, AB)
            if count_places(question, lot) <= 60:
                most = self.assert_rate(question, lot, chance.choice([(), (), ("a",), ("b", "a")]))
                seen[(question.kind, most)] = seen.get((question.kind, most), 0) + 1
        for kind in KINDS:
            self.assertGreaterEqual(len([most for one, most in seen if one == kind]), 3)

    def test_rates_rise(self):
        """With one mark more, a mark that hides less, a question that tells less."""
        chance = random.Random(371)

        def number(question, lot):
            most = rate(question, lot)[0]
            return 10 ** 31 if most is None else most

        for _ in range(150):
            question, lot = some_question(chance, AB), some_lot(chance, AB)
            most = number(question, lot)
            self.assertGreaterEqual(number(question, Lot([*lot.marks, some_mark(chance, AB, 2)])), most)
            self.assertGreaterEqual(number(question, Lot([Mark(showing(m.machine), m.rule) for m in lot])), most)
            less = Question(question.machine.telling({"no": "x", "yes": chance.choice("xy")}), question.kind)
            self.assertGreaterEqual(number(less, lot), most)
            owed = rate(question, lot, owed=("a",))[0]
            self.assertGreaterEqual(10 ** 31 if owed is None else owed, most)

    def test_the_rate_of_a_product_is_the_lesser_one(self):
        chance = random.Random(372)
        seen = set()
        for _ in range(150):
            one = Question(some_table(chance, AB, 3, ("no", "yes")), chance.choice(KINDS))
            other = some_question(chance, AB, one.kind)
            lot = some_lot(chance, AB, 1)
            if count_places(one * other, lot) <= 60:
                rates = [rate(one, lot)[0], rate(other, lot)[0]]
                least = min([most for most in rates if most is not None], default=None)
                self.assertEqual(rate(one * other, lot)[0], least)
                seen.add(least)
        self.assertGreater(len(seen), 2)

    def test_owed_is_passed_by_name_only(self):
        asked = Question.of(Done(X), X, "stretch")
        with self.assertRaises(TypeError):
            rate(asked, Lot([]), ("x",))
        self.assertEqual(rate(question=asked, lot=Lot([]), owed=["x"])[0], 0)
        self.assertIs(rate(asked, Lot([])).__class__, tuple)

    def test_by_hand(self):
        self.assertEqual(self.assert_rate(Question(BACK, "stretch"), Lot([])), 1)
        self.assertEqual(self.assert_rate(Question(BACK), Lot([])), 0)
        last = Lot([Mark(Latest(("f", "r")).machine_for(("f", "r")), "cleared")])
        self.assertEqual(self.assert_rate(Question(BACK), last), 1)
        self.assertEqual(self.assert_rate(Question(BACK), last, ("r",)), 1)
        self.assertEqual(self.assert_rate(Question(BACK), last, ("f",)), 1)
        self.assertEqual(self.assert_rate(Question(BACK), last, ("f", "r")), None)


class Errors(ErrorCase):
    def test_in_their_order(self):
        question = Question(ring(60, [f"x{k}" for k in range(60)], X))
        lot, other = Lot([Mark(ring(59, None, X), "kept")]), Lot([Mark(ring(59, None, ("y",)), "kept")])
        for odd in ODD_VALUES:
            self.assert_error(BadDeeds, (1,), rate, question, other, owed=["x", odd, odd])
        self.assert_error(BadDeeds, (2,), rate, question, other, owed=("z", "x", "z"))
        self.assert_error(OtherDeeds, (X, ("y",)), rate, question, other, owed=("z",))
        self.assert_error(NoDeed, (1,), rate, question, lot, owed=("x", "z"))
        self.assert_error(TooMany, ("places", 61, 60), rate, question, lot, owed=X)
        self.assert_error(TooMany, ("places", 61, 60), rate, question, lot)
        self.assert_error(NoDeed, (0,), rate, Question(BACK), Lot([]), owed=("x",))


if __name__ == "__main__":
    unittest.main()
