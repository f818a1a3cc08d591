"""Reports: promise [74]."""

import random
import unittest

from betweenlooks.errors import BadNumber, BadWhen, OtherDeeds, TooMany, Uneven
from betweenlooks.machines import Machine
from betweenlooks.marks import Lot, Mark
from betweenlooks.plans import Doubt, Plan, Report, report
from helpers import ODD_VALUES, ErrorCase, ring
from players import READ, count_places, played, right_tells, some_lot, some_machine, some_plan, some_views

WHENS = ("first", "last", "some")
LOW = Mark(Machine(("a",), [[1], [0]], ["0", "1"]), "kept")
HIGH = Mark(Machine(("a",), [[1], [2], [3], [0]], ["0", "0", "1", "1"]), "kept")
DIGITS = Lot([LOW, HIGH])
COUNT = Machine(("a",), [[1], [2], [3], [0]], ["n0", "n1", "n2", "n3"])


def told_there(plan, machine, run):
    """What the machine tells around the last look of a run: for each of the three, the set of the tells."""
    states = [machine.start]
    for member in run:
        at = states[-1]
        states.append(at if member == READ else machine.rows[at][machine.deeds.index(member)])
    reads = [place for place, member in enumerate(run) if member == READ]
    first, last = reads[-len(plan)], reads[-1]
    tells = [machine.tells[state] for state in states]
    return {"first": {tells[first]}, "last": {tells[last]}, "some": set(tells[first:last + 1])}


class Reports(ErrorCase):
    def assert_report(self, plan, lot, machine, when, most=None):
        found = report(plan, lot, machine, when, most)
        right = right_tells(plan, lot, machine, when, most)
        if all(right.values()):
            self.assertIsInstance(found, Report)
            self.assertEqual(found.answers, {row: min(tells) for row, tells in right.items()})
            return found
        self.assertIsInstance(found, Doubt)
        self.assertEqual(right[found.row], set())
        common = None
        for run in found.runs:
            looks = played(plan, lot, run)
            self.assertEqual((run.__class__, run[-1], looks[-1][1]), (tuple, READ, found.row))
            self.assertEqual(run.count(READ), len(looks) * len(plan))
            self.assertTrue(most is None or all(look[3] <= most for look in looks))
            here = told_there(plan, machine, run)[when]
            common = here if common is None else common & here
        self.assertEqual(common, set())
        self.assertGreater(len(found.runs), 1)
        return found

    def test_any_plans(self):
        chance = random.Random(74)
        seen = {}
        for _ in range(220):
            deeds, marks = ("a", "b")[:chance.randint(1, 2)], chance.choice([1, 2, 2, 3])
            lot = chance.choice([some_lot(chance, deeds, marks), some_views(chance, deeds, marks, chance.randint(2, 5))])
            plan = some_plan(chance, marks, marks + chance.choice([0, 1, 2]))
            machine = some_machine(chance, deeds, chance.randint(1, 3))
            if chance.random() < 0.4:
                machine = Machine(deeds, lot[0].machine.rows, [chance.choice("xyz") for _ in lot[0].machine.rows])
            if count_places(plan, lot, machine) > 60:
                continue
            for when in WHENS:
                most = chance.choice([None, None, 0, 1, 2, 3])
                found = self.assert_report(plan, lot, machine, when, most)
                key = (when, most is None, found.__class__.__name__)
                seen[key] = seen.get(key, 0) + 1
        self.assertEqual(len(seen), 12)
        self.assertGreater(min(seen.values()), 8)

    def test_by_hand(self):
        plan = Plan((0, 1, 0), (0, 1), ((0, 2),))
        answers = {("0", "0"): "n0", ("1", "0"): "n1", ("0", "1"): "n2", ("1", "1"): "n3"}
        for when in ("last", "some"):
            self.assertEqual(self.assert_report(plan, DIGITS, COUNT, when, 1).answers, answers)
        self.assertEqual(report(most=None, when="some", machine=COUNT, lot=DIGITS, plan=plan).answers, answers)
        self.assertIsInstance(report(plan, DIGITS, COUNT, "last"), Doubt)
        self.assertIsInstance(report(plan, DIGITS, COUNT, "first", 2), Doubt)
        self.assertEqual(report(plan, DIGITS, COUNT, "first", 0).answers, answers)

    def test_of_several_tells_the_first_one_is_reported(self):
        """With a single deed amid each look the machine tells both, z first or b first."""
        lot = Lot([Mark(Machine(("a",), [[1], [2], [0]], ["0", "1", "2"]), "cleared")])
        plan = Plan((0, 0), (1,), (), ((1, ("1",)),))
        machine = Machine(("a",), [[1], [0]], ["z", "b"])
        self.assertEqual(report(plan, lot, machine, "some", 1).answers, {("1",): "b"})

    def test_a_longer_way_may_have_fewer_deeds_in_a_look(self):
        """A place that matters comes only behind a look that is longer than it might be, and has fewer deeds in it."""
        tables = [[[0, 1, 1], [1, 0, 0], [2, 2, 2]], [[1, 1, 0], [1, 1, 1], [0, 0, 2]],
                  [[3, 0, 3], [1, 3, 0], [1, 2, 3], [2, 3, 0]]]
        machines = [Machine(("a", "b", "c"), rows, "0123"[:len(rows)]) for rows in tables]
        lot = Lot([Mark(machine, rule) for machine, rule in zip(machines, ("cleared", "cleared", "kept"))])
        found = self.assert_report(Plan((2, 0, 1), (1, 2, 0)), lot, machines[2], "some", 2)
        self.assertEqual(found.answers[("1", "0", "1")], "1")

    def test_failed_looks_tell_nothing(self):
        plan = Plan((0, 1), (0, 1), (), ((0, ("7",)),))
        for when in WHENS:
            self.assertEqual(report(plan, DIGITS, COUNT, when).answers, {})

    def test_what_is_told_is_new(self):
        found = report(Plan((0, 1), (0, 1)), DIGITS, COUNT, "last", 0)
        found.answers.clear()
        self.assertEqual(len(found.answers), 4)
        doubt = report(Plan((0, 1), (0, 1)), DIGITS, COUNT, "first")
        many = len(doubt.runs)
        doubt.runs.clear()
        self.assertEqual(len(doubt.runs), many)


class Errors(ErrorCase):
    def test_their_order(self):
        plan, wide = Plan((0, 1), (0, 1)), Lot([Mark(ring(60), "kept"), Mark(ring(7), "kept")])
        other = ring(2, None, ("a", "b"))
        for when in [*ODD_VALUES, "First", "any", "lasts"]:
            self.assert_error(Uneven, (1, 2), report, plan, Lot([LOW]), other, when, 1001)
            self.assert_error(OtherDeeds, (("a",), ("a", "b")), report, plan, wide, other, when, 1001)
            self.assert_error(BadWhen, (when,), report, plan, wide, COUNT, when, 1001)
        for when in WHENS:
            for most in [*[odd for odd in ODD_VALUES if odd is not None], 1001, -1, "1"]:
                self.assert_error(BadNumber, (most,), report, plan, wide, COUNT, when, most)
            for most in (None, 0, 1000):
                self.assert_error(TooMany, ("places", 61, 60), report, plan, wide, COUNT, when, most)

    def test_about_sixty_places_of_values_and_state(self):
        chance = random.Random(75)
        seen = set()
        for sizes in [(4, 15), (5, 12), (60, 1), (1, 60), (30, 2), (31, 2), (7, 9), (13, 5), (8, 8), (16, 4), (20, 3)]:
            for rule in ("kept", "cleared"):
                tells = [chance.choice("01") for _ in range(sizes[0])]
                lot = Lot([Mark(ring(sizes[0], tells), rule), Mark(ring(sizes[0], tells[::-1]), "kept")])
                machine = ring(sizes[1], [chance.choice("xy") for _ in range(sizes[1])])
                plan = chance.choice([Plan((0, 1), (0, 1)), Plan.strictest((1, 0, 1))])
                many = count_places(plan, lot, machine)
                seen.add(many)
                for when in WHENS:
                    if many > 60:
                        self.assert_error(TooMany, ("places", 61, 60), report, plan, lot, machine, when)
                    else:
                        Reports.assert_report(self, plan, lot, machine, when)
        self.assertTrue(60 in seen and min(many for many in seen if many > 60) < 65, seen)


if __name__ == "__main__":
    unittest.main()
