"""Promises 6 and 7: where rows lead, the order of rows, and the reached states."""

import itertools
import random
import unittest

from helpers import BACK, ODD_VALUES, ErrorCase, led, ring, rows_up_to, some_machine

from betweenlooks.errors import BadState, NoDeed
from betweenlooks.machines import Machine


class Ways(ErrorCase):
    def test_rows_from_the_start_and_from_each_state(self):
        chance = random.Random(2)
        for _ in range(60):
            machine = some_machine(chance)
            row = [chance.choice(machine.deeds) for _ in range(chance.randint(0, 9))]
            for state in (None, *range(len(machine))):
                first = machine.start if state is None else state
                way = [led(machine, first, row[:k]) for k in range(len(row) + 1)]
                for given in (row, tuple(row)):
                    self.assertEqual(machine.path(given, state), way)
                    self.assertEqual(machine.after(given, state), way[-1])
                    self.assertEqual(machine.told(given), machine.tells[machine.after(given)])

    def test_by_hand(self):
        self.assertEqual(BACK.path(("r", "f", "r")), [0, 0, 1, 2])
        self.assertEqual(BACK.path((), 1), [1])
        self.assertEqual(BACK.path(row=["f"], state=1), [1, 1])
        self.assertEqual([BACK.after(()), BACK.after(["r"], 1), BACK.after(row=("f",), state=0)], [0, 2, 1])
        self.assertEqual([BACK.told(()), BACK.told(("f", "r")), BACK.told(row=["r", "f"])], ["no", "yes", "no"])
        self.assertEqual(Machine(("a",), [[1], [0]], ["x", "y"], 1).told(()), "y")

    def test_a_path_is_a_new_list(self):
        first = BACK.path(("f", "r"))
        first.append("more")
        self.assertIs(type(first), list)
        self.assertEqual(BACK.path(("f", "r")), [0, 1, 2])

    def test_long_rows(self):
        machine = ring(60)
        self.assertEqual(machine.after(("a",) * 12345, 7), (12345 + 7) % 60)

    def test_no_deed(self):
        for odd in [*ODD_VALUES, "x", 0, 1, "ff", ("f",)]:
            for row, index in (([odd], 0), (["f", odd, "r", odd], 1), (("f", "r", "f", odd), 3)):
                self.assert_error(NoDeed, [index], BACK.after, row)
                self.assert_error(NoDeed, [index], BACK.path, row)
                self.assert_error(NoDeed, [index], BACK.told, row)
                self.assert_error(NoDeed, [index], BACK.after, row, 2)
                self.assert_error(NoDeed, [index], BACK.path, row, 2)

    def test_no_state_comes_first(self):
        for odd in [value for value in ODD_VALUES if value is not None] + [3, 60, "0", [0], 10 ** 30]:
            for row in ((), ("f",), ("x",), [None]):
                self.assert_error(BadState, [odd], BACK.after, row, odd)
                self.assert_error(BadState, [odd], BACK.path, row, odd)


class Order(unittest.TestCase):
    def test_all_rows_by_length_and_places(self):
        for deeds in (("a",), ("b", "a"), ("f", "r", "e"), ("z", "y", "x", "w", "v", "u")):
            machine = ring(2, deeds=deeds)
            for most in (0, 1, 2, 4):
                wanted = rows_up_to(deeds, most)
                found = list(itertools.islice(machine.all_rows(), len(wanted)))
                self.assertEqual(found, wanted)
                self.assertEqual({type(row) for row in found}, {tuple})

    def test_all_rows_do_not_end(self):
        many = 3 + sum(2 ** n for n in range(12))
        self.assertEqual(len(list(itertools.islice(BACK.all_rows(), many))), many)
        self.assertEqual(next(itertools.islice(ring(2).all_rows(), 500, None)), ("a",) * 500)

    def test_each_call_begins_anew(self):
        first = BACK.all_rows()
        self.assertEqual([next(first), next(first)], [(), ("f",)])
        second = BACK.all_rows()
        self.assertEqual([next(second), next(first), next(second)], [(), ("r",), ("f",)])


class Reached(unittest.TestCase):
    def test_each_reached_state_once_with_its_first_row(self):
        chance = random.Random(3)
        for _ in range(150):
            machine = some_machine(chance, states=chance.randint(1, 5), deeds=chance.randint(1, 3))
            wanted, met = [], set()
            for row in rows_up_to(machine.deeds, len(machine) - 1):
                state = led(machine, machine.start, row)
                if state not in met:
                    met.add(state)
                    wanted.append((state, row))
            self.assertEqual(machine.reached(), wanted)

    def test_by_hand(self):
        self.assertEqual(BACK.reached(), [(0, ()), (1, ("f",)), (2, ("f", "r"))])
        machine = Machine(("a", "b"), [[0, 0], [3, 2], [2, 2], [1, 3]], ["x"] * 4, 1)
        self.assertEqual(machine.reached(), [(1, ()), (3, ("a",)), (2, ("b",))])

    def test_the_order_is_that_of_the_deeds(self):
        rows = [[1, 2], [1, 1], [2, 2]]
        self.assertEqual(Machine(("z", "a"), rows, ["x"] * 3).reached(), [(0, ()), (1, ("z",)), (2, ("a",))])

    def test_many_states_and_a_new_list(self):
        found = ring(60).reached()
        self.assertEqual(found, [(k, ("a",) * k) for k in range(60)])
        self.assertEqual({type(pair) for pair in found}, {tuple})
        found.clear()
        self.assertEqual(len(ring(60).reached()), 60)


if __name__ == "__main__":
    unittest.main()
