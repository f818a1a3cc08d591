"""Promises 11 to 13: acts, their products and powers, and the acts of a machine."""

import operator
import random
import unittest
from math import lcm

from helpers import BACK, ODD_VALUES, ErrorCase, doubled, ring, rows_up_to, some_machine

from betweenlooks.acts import Act, act_of, acts
from betweenlooks.errors import BadAct, BadNumber, BadState, NoDeed, TooMany, Uneven
from betweenlooks.machines import Machine


def some_act(chance, many=None):
    many = many or chance.randint(1, 9)
    return Act(tuple(chance.randrange(many) for _ in range(many)))


def of_rings(*sizes, ahead=0):
    """An act that leads along rings of these sizes, and along a way of so many states into the first of them."""
    states = []
    for size in sizes:
        begin = len(states)
        states += [begin + (k + 1) % size for k in range(size)]
    for k in range(ahead):
        states.append(0 if k == 0 else len(states) - 1)
    return Act(tuple(states))


def ring_and_flip(many):
    """A machine with a swap that rings, and a deed that turns the ring over: it has 2 * many acts."""
    rows = [[(k + 1) % many, -k % many] for k in range(many)]
    return Machine(("a", "b"), rows, ["x"] * (many - 1) + ["y"])


class Making(ErrorCase):
    def test_states(self):
        chance = random.Random(12)
        for _ in range(60):
            states = some_act(chance).states
            self.assertEqual(Act(states).states, states)
            self.assertIs(type(Act(states=states).states), tuple)
        self.assertEqual(len(Act(tuple(range(500))).states), 500)

    def test_what_is_no_act(self):
        odd = [*ODD_VALUES, [0], [0, 1], (1,), (-1,), (0, 2), (0, -1), (True,), (False, 1), (0, True), (0, None),
               (0, "1"), (0, 1.0), ((0,), 1), 0, 5, "0", range(2), {0: 0}]
        for states in odd:
            self.assert_error(BadAct, [states], Act, states)

    def test_image_rank_and_swap(self):
        chance = random.Random(13)
        for _ in range(80):
            p = some_act(chance)
            many = len(p.states)
            self.assertEqual(p.image, tuple(k for k in range(many) if k in p.states))
            self.assertIs(type(p.image), tuple)
            self.assertEqual(p.rank, len(set(p.states)))
            self.assertIs(p.is_swap, sorted(p.states) == list(range(many)))
        p = Act((2, 2, 0))
        self.assertEqual([p.states, p.image, p.rank, p.is_swap], [(2, 2, 0), (0, 2), 2, False])
        self.assertEqual([Act((0,)).is_swap, Act((1, 0)).is_swap, Act((1, 1)).is_swap], [True, True, False])

    def test_brackets(self):
        p = Act((2, 2, 0))
        self.assertEqual([p[0], p[1], p[2]], [2, 2, 0])
        for odd in [*ODD_VALUES, 3, -3, "0", 10 ** 30, slice(0, 1), (0, 1)]:
            self.assert_error(BadState, [odd], operator.getitem, p, odd)

    def test_acts_are_not_iterated_over(self):
        with self.assertRaises(TypeError):
            list(Act((0, 1)))


class Comparing(unittest.TestCase):
    def test_as_the_tuples(self):
        chance = random.Random(14)
        some = [some_act(chance, many) for many in (1, 2, 2, 2, 3, 3, 3, 3, 4, 4)]
        for p in some + [Act(p.states) for p in some]:
            for q in some:
                for compare in (operator.eq, operator.ne, operator.lt, operator.le, operator.gt, operator.ge):
                    self.assertIs(compare(p, q), compare(p.states, q.states))
        self.assertEqual([p.states for p in sorted(some)], sorted(p.states for p in some))

    def test_equal_to_nothing_of_another_kind(self):
        p = Act((0, 1))
        for other in [*ODD_VALUES, (0, 1), [0, 1], 1]:
            self.assertFalse(p == other)
            self.assertTrue(p != other)
        for compare in (operator.lt, operator.le):
            with self.assertRaises(TypeError):
                compare(p, (0, 1))


class Products(ErrorCase):
    def test_from_left_to_right(self):
        self.assertEqual((Act((1, 1, 2)) * Act((0, 2, 2))).states, (2, 2, 2))
        self.assertEqual((Act((0, 2, 2)) * Act((1, 1, 2))).states, (1, 2, 2))
        chance = random.Random(15)
        for _ in range(80):
            many = chance.randint(1, 9)
            p, q = some_act(chance, many), some_act(chance, many)
            before = (p.states, q.states)
            self.assertEqual([(p * q)[k] for k in range(many)], [q[p[k]] for k in range(many)])
            self.assertEqual((p.states, q.states), before)

    def test_uneven(self):
        self.assert_error(Uneven, [2, 3], operator.mul, Act((0, 1)), Act((0, 1, 2)))
        self.assert_error(Uneven, [3, 1], operator.mul, Act((0, 0, 2)), Act((0,)))

    def test_no_product_with_another_kind(self):
        for other in (2, (0, 1), [0, 1], None):
            with self.assertRaises(TypeError):
                operator.mul(Act((0, 1)), other)

    def test_times(self):
        chance = random.Random(16)
        for _ in range(60):
            p = some_act(chance)
            product = Act(tuple(range(len(p.states))))
            for number in range(20):
                self.assertEqual(p.times(number), product)
                product = product * p
        self.assertEqual(Act((1, 0)).times(number=3), Act((1, 0)))

    def test_great_numbers(self):
        p = of_rings(7, 11, 13, ahead=5)
        for number in (10 ** 30, 10 ** 30 - 1, 123456789012345678901234567890, 2 ** 64):
            wanted = [(k + number) % 7 for k in range(7)]
            wanted += [7 + (k + number) % 11 for k in range(11)]
            wanted += [18 + (k + number) % 13 for k in range(13)]
            wanted += [(number - k - 1) % 7 for k in range(5)]
            self.assertEqual(p.times(number).states, tuple(wanted))

    def test_numbers_that_are_none(self):
        for odd in [*ODD_VALUES, 10 ** 30 + 1, -10 ** 30, "1", 2.0]:
            self.assert_error(BadNumber, [odd], Act((1, 0)).times, odd)


class Cycles(unittest.TestCase):
    def test_least_numbers(self):
        chance = random.Random(17)
        for _ in range(200):
            p = some_act(chance, chance.choice([None, 1, 2, 12]))
            powers = []
            power = p.times(0).states
            while power not in powers:
                powers.append(power)
                power = tuple(p.states[k] for k in power)
            ahead = powers.index(power)
            self.assertEqual(p.cycle, (ahead, len(powers) - ahead))
            self.assertIs(type(p.cycle), tuple)

    def test_by_hand(self):
        self.assertEqual(Act((1, 1, 2)).cycle, (1, 1))
        self.assertEqual(Act((0, 1, 2)).cycle, (0, 1))
        self.assertEqual(Act((0,)).cycle, (0, 1))
        self.assertEqual(Act((1, 2, 0, 4, 3)).cycle, (0, 6))
        self.assertEqual(Act((1, 2, 3, 3)).cycle, (3, 1))
        self.assertEqual(Act((1, 2, 1, 0, 0)).cycle, (2, 2))

    def test_long_cycles(self):
        for sizes, ahead in (((4, 3, 5, 7, 11, 13, 17), 0), ((8, 9, 5, 7, 11, 13, 17), 20), ((60,), 30), ((1,), 89)):
            p = of_rings(*sizes, ahead=ahead)
            self.assertEqual(p.cycle, (ahead, lcm(*sizes)))
            least, length = p.cycle
            self.assertEqual(p.times(least + length), p.times(least))
            if least > 0:
                self.assertNotEqual(p.times(least - 1 + length), p.times(least - 1))

    def test_mixed_up_states(self):
        chance = random.Random(18)
        p = of_rings(8, 9, 5, 7, 11, 13, 17, ahead=20)
        order = list(range(90))
        chance.shuffle(order)
        states = [0] * 90
        for k in range(90):
            states[order[k]] = order[p.states[k]]
        self.assertEqual(Act(tuple(states)).cycle, (20, 8 * 9 * 5 * 7 * 11 * 13 * 17))


class OfMachines(ErrorCase):
    def test_what_a_row_does_to_the_least_machine(self):
        chance = random.Random(19)
        for _ in range(60):
            machine = some_machine(chance)
            least = machine.least()
            row = [chance.choice(machine.deeds) for _ in range(chance.randint(0, 9))]
            wanted = Act(tuple(least.after(row, k) for k in range(len(least))))
            self.assertEqual(act_of(machine, row), wanted)
            self.assertEqual(act_of(doubled(machine, chance), tuple(row)), wanted)

    def test_rows_one_after_the_other(self):
        chance = random.Random(20)
        for _ in range(60):
            machine = some_machine(chance)
            one = [chance.choice(machine.deeds) for _ in range(chance.randint(0, 5))]
            other = [chance.choice(machine.deeds) for _ in range(chance.randint(0, 5))]
            self.assertEqual(act_of(machine, one + other), act_of(machine, one) * act_of(machine, other))

    def test_act_of_no_deed(self):
        for odd in [*ODD_VALUES, "x", 0]:
            self.assert_error(NoDeed, [0], act_of, BACK, [odd])
            self.assert_error(NoDeed, [2], act_of, BACK, ["f", "r", odd, "x"])

    def test_examples_by_hand(self):
        wanted = [((0, 1, 2), ()), ((1, 1, 2), ("f",)), ((0, 2, 2), ("r",)), ((2, 2, 2), ("f", "r")),
                  ((1, 2, 2), ("r", "f"))]
        self.assertEqual([(act.states, row) for act, row in acts(BACK)], wanted)
        self.assertEqual(act_of(BACK, ("r", "f")).states, (1, 2, 2))
        self.assertEqual(act_of(BACK, ("r", "f", "r")), act_of(BACK, ("f", "r")))
        self.assertEqual(act_of(BACK, ("f",)).cycle, (1, 1))

    def test_all_acts_with_first_rows_in_order(self):
        chance = random.Random(21)
        for _ in range(60):
            machine = some_machine(chance, states=chance.randint(1, 3), deeds=2)
            least = machine.least()
            wanted = []
            for row in rows_up_to(machine.deeds, 9):
                act = Act(tuple(least.after(row, k) for k in range(len(least))))
                if act not in [met for met, _ in wanted]:
                    wanted.append((act, row))
            self.assertEqual(acts(machine), wanted)
            self.assertGreaterEqual(len(wanted), len(least))
            self.assertEqual(acts(doubled(machine, chance)), wanted)

    def test_a_new_list_of_pairs_each_time(self):
        found = acts(BACK)
        self.assertEqual({type(pair) for pair in found}, {tuple})
        self.assertIs(type(found[0][0]), Act)
        found.clear()
        self.assertEqual(len(acts(machine=BACK)), 5)

    def test_sixty_states(self):
        found = acts(ring(60, ["x"] * 59 + ["y"]))
        self.assertEqual([row for _, row in found], [("a",) * k for k in range(60)])
        self.assertEqual(found[59][0].states, tuple((k + 59) % 60 for k in range(60)))
        self.assertEqual(len(acts(ring_and_flip(60))), 120)

    def test_exactly_three_hundred(self):
        two = Machine(("a", "b"), [[1, 2], [2, 3], [4, 5], [0, 3], [1, 3], [1, 1]],
                      ["no", "yes", "no", "no", "no", "yes"])
        three = Machine(("a", "b", "c"), [[1, 2, 3], [0, 4, 0], [4, 3, 0], [4, 1, 2], [2, 2, 2]],
                        ["no", "yes", "yes", "yes", "yes"])
        for machine in (two, three):
            found = acts(machine)
            self.assertEqual(len(found), 300)
            self.assertEqual(len({act.states for act, _ in found}), 300)
            for act, row in found:
                self.assertEqual(act_of(machine, row), act)

    def test_more_than_three_hundred(self):
        one_more = Machine(("a", "b", "c"), [[1, 2, 2], [1, 1, 3], [4, 2, 3], [0, 0, 0], [5, 0, 5], [1, 0, 3]],
                           ["yes", "no", "yes", "no", "yes", "yes"])
        self.assert_error(TooMany, ["acts", 301, 300], acts, one_more)
        chance = random.Random(22)
        self.assert_error(TooMany, ["acts", 301, 300], acts, some_machine(chance, states=60, deeds=6))


if __name__ == "__main__":
    unittest.main()
