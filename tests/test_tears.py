"""Torn looks: promises [72] and [73], and the examples of [76]."""

import random
import time
import unittest

from betweenlooks.errors import BadNumber, TooMany, Uneven
from betweenlooks.machines import Machine
from betweenlooks.marks import Lot, Mark
from betweenlooks.plans import Plan, calm, play, tear
from helpers import ODD_VALUES, ErrorCase, ring
from players import READ, count_places, played, shortest_torn, some_lot, some_plan, some_views

LOW = Mark(Machine(("a",), [[1], [0]], ["0", "1"]), "kept")
HIGH = Mark(Machine(("a",), [[1], [2], [3], [0]], ["0", "0", "1", "1"]), "kept")
DIGITS = Lot([LOW, HIGH])
PLACES = ("places", 61, 60)


def writer(*tells):
    """Marks that show the state of a writer who goes round."""
    many = len(tells[0].split())
    rows = [[(k + 1) % many] for k in range(many)]
    return Lot([Mark(Machine(("s",), rows, row.split()), "kept") for row in tells])


X_AND_Y = ("0 0 1 1 1 1 0 0", "0 0 0 1 1 1 1 0")
GUARDED = writer("0 1 1 1 2 3 3 3", *X_AND_Y)
GUARD = Plan((0, 1, 2, 0), (0, 1, 2), ((0, 3),), ((0, ("0", "2")),))


def some_case(chance):
    """A plan and a lot, so small that all runs can be gone through."""
    deeds = ("a", "b")[:chance.randint(1, 2)]
    marks = chance.choice([1, 2, 2, 3])
    lot = chance.choice([some_lot(chance, deeds, marks), some_views(chance, deeds, marks, chance.randint(2, 6)),
                         some_views(chance, deeds, marks, chance.randint(2, 4), "01", ("kept", "cleared"))])
    plan = some_plan(chance, marks, marks + chance.choice([0, 1, 2]))
    if chance.random() < 0.3:
        plan = Plan.strictest(plan.reads)
    return plan, lot


class Examples(ErrorCase):
    def test_two_digits(self):
        plan = Plan((0, 1), (0, 1))
        self.assertEqual(tear(plan, DIGITS), ("a", "?", "a", "?"))
        look = play(plan, DIGITS, ("a", "?", "a", "?"))[0]
        self.assertEqual((look.shown, look.stood), (("1", "1"), (("1", "0"), ("0", "1"))))
        self.assertEqual(calm(plan, DIGITS), 0)
        turned = Plan((1, 0), (1, 0))
        self.assertTrue(play(turned, DIGITS, ("a", "?", "a", "?"))[0].is_torn)
        self.assertEqual(len(tear(turned, DIGITS)), 4)
        agreed = Plan((0, 1, 0), (0, 1), ((0, 2),))
        self.assertIsNone(tear(agreed, DIGITS))
        self.assertIsNone(calm(agreed, DIGITS))

    def test_a_version(self):
        self.assertEqual(calm(GUARD, GUARDED), 7)
        self.assertIsNone(tear(GUARD, GUARDED, 7))
        run = tear(GUARD, GUARDED, 8)
        self.assertEqual(len(run), 12)
        self.assertEqual(play(GUARD, GUARDED, run)[-1].between, 8)
        told = [play(GUARD, GUARDED, ("?",) + ("s",) * k + ("?",) + ("s",) * (8 - k) + ("?", "?"))[0]
                for k in range(9)]
        self.assertIn(("0", "1", "0"), [look.row for look in told if look.is_torn])
        parity = writer("0 1 1 1 0 1 1 1", *X_AND_Y)
        self.assertEqual(calm(Plan((0, 1, 2, 0), (0, 1, 2), ((0, 3),), ((0, ("0",)),)), parity), 3)


class Tears(ErrorCase):
    def assert_tear(self, plan, lot, most=None):
        """The run is right and as short as any; returns its length."""
        run = tear(plan, lot, most)
        wanted = shortest_torn(plan, lot, most)
        self.assertEqual(run and len(run), wanted)
        if run is not None:
            looks = played(plan, lot, run)
            self.assertEqual((run.__class__, run[-1]), (tuple, READ))
            self.assertTrue(looks[-1][4])
            self.assertFalse(any(look[4] for look in looks[:-1]))
            self.assertEqual(run.count(READ), len(looks) * len(plan))
            if most is not None:
                self.assertLessEqual(max(look[3] for look in looks), most)
        return wanted

    def test_any_plans(self):
        chance = random.Random(72)
        seen = {}
        for _ in range(400):
            plan, lot = some_case(chance)
            if count_places(plan, lot) > 60:
                continue
            most = chance.choice([None, None, 0, 1, 2, 3, 5])
            length = self.assert_tear(plan, lot, most)
            key = (most is None, length and length - len(plan))
            seen[key] = seen.get(key, 0) + 1
        self.assertGreater(len(seen), 8)
        self.assertGreater(sum(many for (_, length), many in seen.items() if length is not None), 80)

    def test_cleared_marks_may_need_looks_ahead(self):
        chance = random.Random(73)
        longest = 0
        for _ in range(300):
            marks = chance.choice([2, 3])
            lot = some_lot(chance, ("a",), marks, 4, ("cleared", "cleared", "kept"))
            plan = some_plan(chance, marks, marks + 1)
            if count_places(plan, lot) <= 60:
                for most in (None, 0, 1, 2):
                    length = self.assert_tear(plan, lot, most)
                    longest = max(longest, (length or 0) - len(plan))
        self.assertGreater(longest, 5)

    def test_one_mark_is_never_torn(self):
        chance = random.Random(74)
        begin = time.time()
        for _ in range(60):
            lot = some_views(chance, ("a", "b"), 1, chance.choice([2, 20, 60]), "0123456789")
            plan = some_plan(chance, 1, 8)
            self.assertIsNone(tear(plan, lot, chance.choice([None, 0, 9])))
            self.assertIsNone(calm(plan, lot))
        self.assertLess(time.time() - begin, 4)

    def test_the_same_with_a_limit_that_does_not_matter(self):
        chance = random.Random(75)
        for _ in range(100):
            plan, lot = some_case(chance)
            if count_places(plan, lot) <= 60:
                run = tear(lot=lot, most=1000, plan=plan)
                self.assertEqual(run and len(run), shortest_torn(plan, lot))


class Calm(ErrorCase):
    def test_the_greatest_number(self):
        chance = random.Random(76)
        seen = {}
        for _ in range(250):
            plan, lot = some_case(chance)
            if count_places(plan, lot) > 60:
                continue
            wanted = None
            if shortest_torn(plan, lot) is not None:
                wanted = -1
                while shortest_torn(plan, lot, wanted + 1) is None:
                    wanted += 1
            found = calm(lot=lot, plan=plan)
            self.assertEqual(found, wanted)
            if found is not None:
                self.assertTrue(found == -1 or tear(plan, lot, found) is None)
                self.assertIsNotNone(tear(plan, lot, found + 1))
            seen[found] = seen.get(found, 0) + 1
        self.assertTrue({None, -1, 0, 1} <= set(seen), seen)

    def test_torn_without_any_deed(self):
        """The first mark is cleared ahead of the second one, which is read twice: first 1 and then 0 is never true."""
        latch = Mark(Machine(("a",), [[1], [1]], ["0", "1"]), "cleared")
        plan, lot = Plan((0, 1, 1), (0, 2)), Lot([latch, latch])
        self.assertEqual(calm(plan, lot), -1)
        self.assertEqual(tear(plan, lot, 0), ("a", "?", "?", "?"))
        for most in (None, 1, 1000):
            self.assertEqual(len(tear(plan, lot, most)), 4)
        look = play(plan, lot, ("a", "?", "?", "?"))[0]
        self.assertEqual((look.row, look.stood), (("1", "0"), (("1", "1"), ("0", "1"), ("0", "0"))))

    def test_a_look_ahead_may_need_more_deeds_than_the_torn_one(self):
        one = Machine(("a", "b"), [[3, 3], [3, 1], [0, 1], [3, 1]], ["2", "0", "2", "0"])
        two = Machine(("a", "b"), [[3, 3], [0, 0], [2, 2], [1, 1]], ["1", "0", "1", "1"])
        plan, lot = Plan((1, 0), (1, 0)), Lot([Mark(one, "cleared"), Mark(two, "cleared")])
        self.assertIsNone(shortest_torn(plan, lot, 1))
        self.assertEqual(shortest_torn(plan, lot, 2), 7)
        run = tear(plan, lot, 2)
        self.assertEqual([look[3] for look in played(plan, lot, run)], [2, 1])
        self.assertEqual(calm(plan, lot), 1)


class Errors(ErrorCase):
    def test_their_order(self):
        wide = Lot([Mark(ring(60), "kept"), Mark(ring(7), "kept")])
        plan = Plan((0, 1), (0, 1))
        for most in [*[odd for odd in ODD_VALUES if odd is not None], 1001, -1, 10 ** 30, "1"]:
            self.assert_error(Uneven, (3, 2), tear, plan, Lot([LOW] * 3), most)
            self.assert_error(Uneven, (0, 2), tear, plan, Lot([]), most)
            self.assert_error(BadNumber, (most,), tear, plan, wide, most)
        for most in (None, 0, 1, 1000):
            self.assert_error(TooMany, PLACES, tear, plan, wide, most)
        self.assert_error(Uneven, (1, 2), calm, plan, Lot([LOW]))
        self.assert_error(TooMany, PLACES, calm, plan, wide)

    def test_about_sixty_places(self):
        chance = random.Random(78)
        seen = set()
        for sizes in [(60, 1), (60, 2), (12, 5), (20, 3), (13, 5), (31, 2), (4, 15), (7, 9), (10, 12), (6, 10)]:
            for rules in (("kept", "kept"), ("kept", "cleared"), ("cleared", "kept")):
                lot = Lot([Mark(ring(size, [chance.choice("01") for _ in range(size)]), rule)
                           for size, rule in zip(sizes, rules)])
                for plan in (Plan((0, 1), (0, 1)), Plan.strictest((0, 1, 0)), Plan.strictest((1, 0, 0, 1))):
                    many = count_places(plan, lot)
                    seen.add(many)
                    for most in (None, 0, 3):
                        if many > 60:
                            self.assert_error(TooMany, PLACES, tear, plan, lot, most)
                        else:
                            run = tear(plan, lot, most)
                            self.assertTrue(run is None or played(plan, lot, run)[-1][4])
        self.assertTrue(60 in seen and min(many for many in seen if many > 60) < 70, seen)

    def test_places_that_come_only_amid_a_look_count(self):
        """The first mark is cleared by its read, and the second one has gone on by then."""
        lot = Lot([Mark(ring(5), "cleared"), Mark(ring(5), "kept")])
        self.assertEqual(count_places(Plan((0, 1), (0, 1)), lot), 25)
        lot = Lot([Mark(ring(8), "cleared"), Mark(ring(8), "kept")])
        self.assertEqual(count_places(Plan((1, 0), (1, 0)), lot), 64)
        for most in (None, 0, 1000):
            self.assert_error(TooMany, PLACES, tear, Plan((1, 0), (1, 0)), lot, most)
        kept = Lot([Mark(ring(8), "kept"), Mark(ring(8), "kept")])
        self.assertIsNone(tear(Plan((1, 0), (1, 0)), kept))


class Big(ErrorCase):
    def test_sixty_places_and_eight_reads(self):
        """The tells are all different: whoever waits until a ring has come round can tear every plan."""
        begin = time.time()
        for reads in [(0, 1, 0), (0, 1, 2, 0, 1, 2), (0, 1, 2, 3, 0, 1, 2, 3)]:
            lot = Lot([Mark(ring(60, [f"v{k}" for k in range(60)]), "kept") for _ in range(max(reads) + 1)])
            plan = Plan.strictest(reads)
            run = tear(plan, lot)
            self.assertEqual(len(run), len(reads) + 60 + (len(reads) > 3))
            self.assertTrue(played(plan, lot, run)[-1][4])
            self.assertIsNone(tear(plan, lot, 59))
            self.assertEqual(calm(plan, lot), run.count("a") - 1)
        self.assertLess(time.time() - begin, 10)

    def test_long_locks(self):
        rows = [[(k + 1) % 60] for k in range(60)]
        version = [str(2 * (k // 4) + (k % 4 > 0)) for k in range(60)]
        marks = [version] + [[str((k // 4 + (k % 4 >= low)) % 2) for k in range(60)] for low in (2, 3)]
        lot = Lot([Mark(Machine(("s",), rows, tells), "kept") for tells in marks])
        plan = Plan((0, 1, 2, 0), (0, 1, 2), ((0, 3),), ((0, tuple(map(str, range(0, 30, 2)))),))
        self.assertEqual(calm(plan, lot), 59)
        self.assertEqual(len(tear(plan, lot, 1000)), 64)
        self.assertIsNone(tear(plan, lot, 59))


if __name__ == "__main__":
    unittest.main()
