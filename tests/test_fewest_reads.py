"""The strictest plans with the fewest reads, and plans with fewer pairs: promise [75]."""

import itertools
import random
import time
import unittest

from betweenlooks.errors import BadNumber, NoMark, TooMany, Uneven
from betweenlooks.machines import Machine
from betweenlooks.marks import Lot, Mark
from betweenlooks.plans import Plan, calm, fewest_reads, leaner, tear
from helpers import ODD_VALUES, ErrorCase, ring
from players import count_places, shortest_torn, some_lot, some_plan, some_views

LOW = Mark(Machine(("a",), [[1], [0]], ["0", "1"]), "kept")
HIGH = Mark(Machine(("a",), [[1], [2], [3], [0]], ["0", "0", "1", "1"]), "kept")
DIGITS = Lot([LOW, HIGH])
PLACES = ("places", 61, 60)


def plans_for(marks, reads):
    """All strictest plans for so many marks, in the told order."""
    for many in range(marks, reads + 1):
        for row in itertools.product(range(marks), repeat=many):
            if set(row) == set(range(marks)):
                yield Plan.strictest(row)


def some_small_lot(chance, marks):
    deeds = ("a", "b")[:chance.randint(1, 2)]
    return chance.choice([some_lot(chance, deeds, marks), some_views(chance, deeds, marks, chance.randint(2, 5)),
                          some_views(chance, deeds, marks, 3, "01", ("kept", "cleared"))])


class Fewest(ErrorCase):
    def test_two_digits(self):
        self.assertEqual(fewest_reads(DIGITS, 3), Plan((0, 1, 0), (0, 1), ((0, 2),)))
        self.assertIsNone(fewest_reads(DIGITS, 2))
        self.assertIsNone(fewest_reads(reads=1, lot=DIGITS))
        self.assertEqual(fewest_reads(DIGITS, 6, 0), Plan((0, 1), (0, 1)))
        third = Mark(Machine(("a",), [[k // 3 * 3 + (k + 1) % 3 if k % 3 < 2 else (k + 1) % 9] for k in range(9)],
                             [str(k % 3) for k in range(9)]), "kept")
        upper = Mark(Machine(("a",), third.machine.rows, [str(k // 3) for k in range(9)]), "kept")
        for lot in (Lot([third, upper]), Lot([upper, third])):
            self.assertIsNone(fewest_reads(lot, 2))
            for plan in plans_for(2, 3):
                wanted = shortest_torn(plan, lot)
                self.assertEqual(tear(plan, lot) and len(tear(plan, lot)), wanted)

    def test_the_first_one(self):
        chance = random.Random(75)
        seen = {}
        for _ in range(120):
            marks = chance.choice([1, 2, 2, 3])
            lot, reads = some_small_lot(chance, marks), chance.choice([1, 2, 3, 4] if marks < 3 else [3, 3, 4])
            most = chance.choice([None, None, 0, 1, 2])
            wanted, is_wide = None, False
            for plan in plans_for(marks, reads):
                is_wide = count_places(plan, lot) > 60
                if is_wide or shortest_torn(plan, lot, most) is None:
                    wanted = plan
                    break
            if is_wide:
                self.assert_error(TooMany, PLACES, fewest_reads, lot, reads, most)
                continue
            found = fewest_reads(most=most, reads=reads, lot=lot)
            self.assertEqual(found, wanted)
            seen[found and len(found) - marks] = True
        self.assertTrue({None, 0, 1} <= set(seen), seen)

    def test_all_plans_with_so_few_reads_can_be_torn_where_there_is_none(self):
        chance = random.Random(76)
        seen = 0
        while seen < 25:
            lot = some_small_lot(chance, 2)
            plan = some_plan(chance, 2, 4)
            if count_places(plan, lot) <= 60 and not plan.wants and fewest_reads(lot, len(plan)) is None:
                self.assertIsNotNone(tear(plan, lot))
                seen += 1

    def test_errors_in_their_order(self):
        wide = Lot([Mark(ring(60), "kept"), Mark(ring(7), "kept")])
        for reads in [0, 7, True, None, -1, "3", 2.0]:
            self.assert_error(NoMark, (), fewest_reads, Lot([]), reads, 1001)
            self.assert_error(BadNumber, (reads,), fewest_reads, Lot([LOW] * 4), reads, 1001)
        self.assert_error(TooMany, ("marks", 4, 3), fewest_reads, Lot([LOW] * 4), 6, 1001)
        self.assert_error(TooMany, ("marks", 6, 3), fewest_reads, Lot([LOW] * 6), 1, 1001)
        for most in [*[odd for odd in ODD_VALUES if odd is not None], 1001, -1]:
            self.assertIsNone(fewest_reads(wide, 1, most))
            self.assert_error(BadNumber, (most,), fewest_reads, wide, 2, most)
        for reads in range(2, 7):
            self.assert_error(TooMany, PLACES, fewest_reads, wide, reads, 1000)

    def test_just_few_enough_places(self):
        for size, many in [(7, 56), (8, 64)]:
            lot = Lot([Mark(ring(8), "cleared"), Mark(ring(size), "kept")])
            plans = list(plans_for(2, 2))
            self.assertEqual([count_places(plan, lot) for plan in plans], [many, many])
            if many > 60:
                self.assert_error(TooMany, PLACES, fewest_reads, lot, 6)
            else:
                self.assertEqual(fewest_reads(lot, 6), plans[0])

    def test_six_reads_of_three_marks(self):
        chance = random.Random(77)
        begin = time.time()
        nones = 0
        for states in (4, 8, 30, 60):
            for _ in range(3):
                lot = some_views(chance, ("a", "b"), 3, states, "0123")
                found = fewest_reads(lot, 6)
                nones += found is None
                self.assertTrue(found is None or tear(found, lot) is None)
        self.assertGreater(nones, 3)
        self.assertLess(time.time() - begin, 15)


class Leaner(ErrorCase):
    def wanted(self, plan, lot, most):
        """The plans by the words of [75]."""
        many = len(plan.same)
        choices = [choice for size in range(many + 1) for choice in itertools.combinations(range(many), size)]
        fitting = {choice: Plan(plan.reads, plan.picks, [plan.same[k] for k in choice], plan.wants)
                   for choice in choices}
        calm_ones = {choice for choice in choices if shortest_torn(fitting[choice], lot, most) is None}
        return [fitting[choice] for choice in choices if choice in calm_ones
                and not any(tuple(k for k in choice if k != gone) in calm_ones for gone in choice)]

    def test_by_the_words(self):
        chance = random.Random(78)
        seen = {}
        for _ in range(200):
            marks = chance.choice([2, 2, 3])
            lot, plan = some_small_lot(chance, marks), some_plan(chance, marks, marks + 2)
            if count_places(plan, lot) > 60:
                self.assert_error(TooMany, PLACES, leaner, plan, lot)
                continue
            most = chance.choice([None, None, 0, 1, 2])
            found = leaner(plan, lot, most)
            self.assertEqual(found, self.wanted(plan, lot, most))
            if tear(plan, lot, most) is not None:
                self.assertEqual(found, [])
            key = (len(found) and len(found[0].same), len(found))
            seen[key] = seen.get(key, 0) + 1
        self.assertTrue({(0, 0), (0, 1), (1, 1)} <= set(seen), seen)

    def test_by_hand(self):
        plan = Plan((0, 1, 0, 1, 0), (0, 1), ((0, 2), (2, 4), (1, 3), (0, 4)))
        found = leaner(most=None, lot=DIGITS, plan=plan)
        self.assertEqual(found, self.wanted(plan, DIGITS, None))
        self.assertIn(Plan(plan.reads, plan.picks, ((0, 2),)), found)
        for one in found:
            self.assertIsNone(calm(one, DIGITS))

    def test_errors_in_their_order(self):
        wide = Lot([Mark(ring(60), "kept"), Mark(ring(7), "kept")])
        pairs = list(itertools.combinations(range(5), 2))
        for many in (7, 10):
            self.assert_error(TooMany, ("pairs", many, 6), leaner, Plan((0,) * 5 + (1,), (0, 5), pairs[:many]),
                              Lot([]), 1001)
        six = Plan((0,) * 5 + (1,), (0, 5), pairs[:6])
        self.assert_error(Uneven, (3, 2), leaner, six, Lot([LOW] * 3), 1001)
        self.assert_error(BadNumber, (1001,), leaner, six, wide, 1001)
        self.assert_error(TooMany, PLACES, leaner, six, wide, 1000)
        self.assertEqual(leaner(six, DIGITS), [])


if __name__ == "__main__":
    unittest.main()
