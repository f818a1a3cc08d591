"""Promises 8 and 9: states that are apart, the least machine, and what parts two machines."""

import random
import unittest

from helpers import BACK, ODD_VALUES, ErrorCase, doubled, first_where, ring, rows_up_to, some_machine

from betweenlooks.errors import BadState, OtherDeeds
from betweenlooks.machines import Machine


def first_apart(one, a, other, b):
    """The first row that leads state a of one machine and state b of another one to different tells, or None."""
    return first_where((one, other), (a, b), lambda at: one.tells[at[0]] != other.tells[at[1]])


class Apart(ErrorCase):
    def test_the_first_row_or_none(self):
        chance = random.Random(4)
        for _ in range(60):
            machine = some_machine(chance, tells=("no", "no", "no", "yes"))
            for a in range(len(machine)):
                for b in range(len(machine)):
                    self.assertEqual(machine.apart(a, b), first_apart(machine, a, machine, b))

    def test_against_all_short_rows(self):
        chance = random.Random(5)
        for _ in range(60):
            machine = some_machine(chance, states=4, deeds=2)
            rows = rows_up_to(machine.deeds, 4)
            for a in range(4):
                for b in range(4):
                    parting = [row for row in rows if machine.tells[machine.after(row, a)]
                               != machine.tells[machine.after(row, b)]]
                    self.assertEqual(machine.apart(a, b), parting[0] if parting else None)

    def test_by_hand(self):
        self.assertEqual(BACK.apart(0, 1), ("r",))
        self.assertEqual(BACK.apart(1, 0), ("r",))
        self.assertEqual(BACK.apart(0, 2), ())
        self.assertIsNone(BACK.apart(1, 1))
        self.assertIsNone(ring(12).apart(0, 7))

    def test_rings_that_tell_alike_but_for_one(self):
        for many in (2, 17, 60):
            machine = ring(many, ["x"] * (many - 1) + ["y"])
            for a in range(many):
                self.assertEqual(machine.apart(a, 0), None if a == 0 else ("a",) * (many - 1 - a))

    def test_sixty_states_alike(self):
        rows = [[(k + 1) % 60, (7 * k) % 60, 59 - k, (k + 1) % 60 if k < 58 else (0 if k == 58 else 59)]
                for k in range(60)]
        self.assertIsNone(Machine(("a", "b", "c", "d"), rows, ["x"] * 60).apart(3, 4))

    def test_states_that_are_none(self):
        for odd in [*ODD_VALUES, 3, 60, "0"]:
            self.assert_error(BadState, [odd], BACK.apart, odd, 0)
            self.assert_error(BadState, [odd], BACK.apart, 0, odd)
            self.assert_error(BadState, [odd], BACK.apart, odd, 17)
            self.assert_error(BadState, [17], BACK.apart, 17, odd)


class Least(unittest.TestCase):
    def test_reached_states_alone_alike_ones_as_one_in_order(self):
        chance = random.Random(6)
        for _ in range(80):
            machine = some_machine(chance, tells=("no", "no", "yes"))
            least = machine.least()
            kept = []
            for state, _ in machine.reached():
                if all(first_apart(machine, state, machine, other) is not None for other in kept):
                    kept.append(state)
            self.assertEqual(len(least), len(kept))
            self.assertEqual((least.deeds, least.start), (machine.deeds, 0))
            self.assertEqual(least.tells, tuple(machine.tells[state] for state in kept))
            for number, state in enumerate(kept):
                for place, led in enumerate(least.rows[number]):
                    self.assertIsNone(first_apart(machine, machine.rows[state][place], machine, kept[led]))

    def test_doubled_unreached_and_renumbered(self):
        chance = random.Random(7)
        for _ in range(80):
            machine = some_machine(chance)
            self.assertEqual(doubled(machine, chance).least(), machine.least())
            self.assertEqual(doubled(doubled(BACK, chance), chance).least(), BACK)

    def test_it_is_its_own_least_machine(self):
        chance = random.Random(8)
        for _ in range(80):
            least = some_machine(chance).least()
            self.assertEqual(least.least(), least)
            self.assertEqual([state for state, _ in least.reached()], list(range(len(least))))

    def test_by_hand(self):
        machine = Machine(("a", "b"), [[3, 3], [1, 1], [3, 2], [2, 2]], ["x", "y", "x", "x"], 1)
        self.assertEqual(machine.least(), Machine(("a", "b"), [[0, 0]], ["y"]))
        machine = Machine(("a", "b"), [[3, 1], [0, 0], [2, 2], [0, 0]], ["x", "y", "z", "y"], 1)
        self.assertEqual(machine.least(), Machine(("a", "b"), [[1, 1], [0, 0]], ["y", "x"]))
        self.assertEqual(BACK.least(), BACK)

    def test_sixty_states(self):
        machine = ring(60, ["x"] * 59 + ["y"])
        self.assertEqual(machine.least(), machine)
        self.assertEqual(ring(60).least(), ring(1))
        self.assertEqual(ring(60, ["x", "x", "y"] * 20).least(), ring(3, ["x", "x", "y"]))


class Parting(ErrorCase):
    def test_the_first_row_or_none_and_the_same_both_ways(self):
        chance = random.Random(9)
        found = []
        for _ in range(300):
            one = some_machine(chance, deeds=2, tells=("no", "no", "yes"))
            other = some_machine(chance, deeds=2, tells=("no", "no", "yes"))
            other = Machine(one.deeds, other.rows, other.tells, other.start)
            row = first_apart(one, one.start, other, other.start)
            self.assertEqual([one.parting(other), other.parting(one)], [row, row])
            self.assertEqual(one.least() == other.least(), row is None)
            found.append(row is None)
        self.assertEqual(set(found), {True, False})

    def test_machines_that_tell_the_same(self):
        chance = random.Random(10)
        for _ in range(80):
            machine = some_machine(chance)
            self.assertIsNone(machine.parting(doubled(machine, chance)))
            self.assertIsNone(machine.parting(machine.least()))
            self.assertIsNone(machine.least().parting(machine))

    def test_by_hand(self):
        once = Machine(("f", "r"), [[1, 0], [1, 1]], ["no", "yes"])
        self.assertEqual(BACK.parting(once), ("f",))
        twice = Machine(("f", "r"), [[1, 0], [2, 2], [2, 2]], ["no", "no", "yes"])
        self.assertEqual(BACK.parting(twice), ("f", "f"))
        self.assertEqual(ring(2).parting(ring(2, ["y", "x"])), ())
        self.assertIsNone(ring(59).parting(ring(60)))
        self.assertEqual(ring(60, ["x"] * 59 + ["y"]).parting(ring(60)), ("a",) * 59)

    def test_other_deeds(self):
        for have, want in ((("a", "b"), ("b", "a")), (("a",), ("a", "b")), (("a", "b"), ("a",)), (("a",), ("b",))):
            one, other = ring(2, deeds=have), ring(2, deeds=want)
            self.assert_error(OtherDeeds, [have, want], one.parting, other)
            self.assertFalse(one.least() == other.least())


if __name__ == "__main__":
    unittest.main()
