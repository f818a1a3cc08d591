"""Promise 10: products of machines, and machines with other tells."""

import operator
import random
import unittest

from helpers import BACK, ODD_VALUES, ErrorCase, ring, rows_up_to, some_machine

from betweenlooks.errors import BadTell, NoEntry, OtherDeeds, TooMany
from betweenlooks.machines import Machine


class Products(ErrorCase):
    def test_it_does_what_both_do(self):
        chance = random.Random(11)
        for _ in range(80):
            one = some_machine(chance, states=chance.randint(1, 4), deeds=2, tells=("a", "b", "c/d"))
            other = some_machine(chance, states=chance.randint(1, 4), deeds=2, tells=("x", "y"))
            other = Machine(one.deeds, other.rows, other.tells, other.start)
            product = one * other
            pairs = []
            for row in rows_up_to(one.deeds, 7):
                self.assertEqual(product.told(row), one.told(row) + "/" + other.told(row))
                pair = (one.after(row), other.after(row))
                if pair not in pairs:
                    pairs.append(pair)
                self.assertEqual(product.after(row), pairs.index(pair))
            self.assertEqual(product.start, 0)
            self.assertEqual(product.deeds, one.deeds)
            self.assertEqual([state for state, _ in product.reached()], list(range(len(product))))

    def test_reached_pairs_alone_in_the_order_of_their_first_rows(self):
        one = Machine(("a", "b"), [[0, 0], [1, 2], [2, 2]], ["p", "q", "r"], 1)
        other = Machine(("a", "b"), [[0, 1], [1, 1]], ["x", "y"])
        self.assertEqual(one * other, Machine(("a", "b"), [[0, 1], [1, 1]], ["q/x", "r/y"]))
        self.assertEqual(other * one, Machine(("a", "b"), [[0, 1], [1, 1]], ["x/q", "y/r"]))
        self.assertEqual(ring(2, ["p", "q"]) * ring(3, ["x", "y", "z"]),
                         ring(6, ["p/x", "q/y", "p/z", "q/x", "p/y", "q/z"]))
        self.assertEqual(BACK * BACK, BACK.telling({"no": "no/no", "yes": "yes/yes"}))

    def test_the_factors_stay_as_they_are(self):
        one, other = ring(4), ring(6)
        product = one * other
        self.assertEqual(len(product), 12)
        self.assertEqual((one, other), (ring(4), ring(6)))

    def test_sixty_states_and_more(self):
        self.assertEqual(len(ring(4) * ring(15)), 60)
        self.assertEqual(len(ring(60) * ring(60)), 60)
        for many in ((7, 9), (8, 15), (59, 60), (2, 31)):
            self.assert_error(TooMany, ["states", 61, 60], operator.mul, ring(many[0]), ring(many[1]))

    def test_long_tells(self):
        product = ring(1, ["x" * 30]) * ring(1, ["y" * 29])
        self.assertEqual(product.tells, ("x" * 30 + "/" + "y" * 29,))
        self.assert_error(TooMany, ["characters", 61, 60], operator.mul, ring(1, ["x" * 30]), ring(1, ["y" * 30]))
        self.assert_error(TooMany, ["characters", 61, 60], operator.mul, ring(2, ["x", "x" * 60]), ring(1, ["y"]))

    def test_pairs_that_are_not_reached_may_have_long_tells(self):
        product = ring(2, ["x" * 40, "x"]) * ring(2, ["y", "y" * 40])
        self.assertEqual(product.tells, ("x" * 40 + "/y", "x/" + "y" * 40))

    def test_other_deeds_then_states_then_characters(self):
        long = ["x" * 60]
        for have, want in ((("a", "b"), ("b", "a")), (("a",), ("a", "b")), (("a",), ("b",))):
            self.assert_error(OtherDeeds, [have, want], operator.mul,
                              ring(7, long * 7, have), ring(9, long * 9, want))
        self.assert_error(TooMany, ["states", 61, 60], operator.mul, ring(7, long * 7), ring(9, long * 9))
        self.assert_error(TooMany, ["characters", 61, 60], operator.mul, ring(7, long * 7), ring(8, long * 8))

    def test_no_product_with_another_kind(self):
        for other in (2, "a", None, [BACK]):
            with self.assertRaises(TypeError):
                operator.mul(BACK, other)


class Telling(ErrorCase):
    def test_each_tell_is_replaced(self):
        machine = Machine(("a",), [[1], [2], [0], [3]], ["x", "y", "x", "z"], 2)
        table = {"x": "no", "y": "no", "z": "0/z", "w": None, 7: "?"}
        made = machine.telling(table)
        self.assertEqual(made, Machine(("a",), [[1], [2], [0], [3]], ["no", "no", "no", "0/z"], 2))
        table["x"] = "yes"
        self.assertEqual(made.tells, ("no", "no", "no", "0/z"))
        self.assertEqual(machine.tells, ("x", "y", "x", "z"))
        self.assertEqual(BACK.telling(table={"no": "yes", "yes": "no"}).tells, ("yes", "yes", "no"))

    def test_no_entry_comes_first(self):
        machine = Machine(("a",), [[1], [2], [0], [3]], ["x", "y", "w", "z"], 2)
        self.assert_error(NoEntry, ["x"], machine.telling, {})
        self.assert_error(NoEntry, ["y"], machine.telling, {"x": "no", "w": "no"})
        self.assert_error(NoEntry, ["z"], machine.telling, {"x": "", "y": None, "w": "NO"})

    def test_new_tells_that_are_none(self):
        machine = Machine(("a",), [[1], [2], [0], [3]], ["x", "x", "y", "z"], 2)
        for odd in [*ODD_VALUES, 0, 1, "x" * 61, "a-b"]:
            self.assert_error(BadTell, [0], machine.telling, {"x": odd, "y": odd, "z": "z"})
            self.assert_error(BadTell, [2], machine.telling, {"x": "x", "y": odd, "z": odd})
            self.assert_error(BadTell, [3], machine.telling, {"x": "x", "y": "y", "z": odd})


if __name__ == "__main__":
    unittest.main()
