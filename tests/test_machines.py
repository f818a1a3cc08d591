"""Promises 4, 5 and 9: what machines are made from, and when they are equal."""

import random
import unittest

from helpers import BACK, ODD_VALUES, ErrorCase, ring, some_machine

from betweenlooks.errors import BadDeeds, BadRow, BadState, BadTell, TooMany, Uneven
from betweenlooks.machines import Machine

SEVEN = ("a", "b", "c", "d", "e", "f", "g")


class Parts(unittest.TestCase):
    def test_parts_are_kept_as_tuples(self):
        chance = random.Random(1)
        for _ in range(60):
            like = some_machine(chance)
            for outer, inner in ((list, list), (list, tuple), (tuple, list), (tuple, tuple)):
                made = Machine(outer(like.deeds), outer(inner(row) for row in like.rows), outer(like.tells), like.start)
                self.assertEqual((made.deeds, made.rows, made.tells, made.start),
                                 (like.deeds, like.rows, like.tells, like.start))
                self.assertIs(type(made.deeds), tuple)
                self.assertIs(type(made.rows), tuple)
                self.assertEqual({type(row) for row in made.rows}, {tuple})
                self.assertIs(type(made.tells), tuple)
                self.assertEqual(len(made), len(like.rows))
                self.assertEqual(made, like)

    def test_the_start_is_0_unless_told(self):
        self.assertEqual(Machine(["a"], [[0], [0]], ["x", "y"]).start, 0)
        self.assertEqual(Machine(["a"], [[0], [0]], ["x", "y"], 1).start, 1)
        self.assertEqual(Machine(start=1, tells=["x", "y"], rows=[[0], [0]], deeds=["a"]).start, 1)

    def test_later_changes_have_no_effect(self):
        deeds, rows, tells = ["a", "b"], [[0, 1], [1, 0]], ["x", "y"]
        made = Machine(deeds, rows, tells)
        deeds[0] = "c"
        rows[0][0] = 1
        rows[1] = [1, 1]
        tells.append("z")
        self.assertEqual((made.deeds, made.rows, made.tells), (("a", "b"), ((0, 1), (1, 0)), ("x", "y")))

    def test_the_arguments_stay_as_they_are(self):
        deeds, rows, tells = ["a", "b"], [[0, 1], [1, 0]], ["x", "y"]
        Machine(deeds, rows, tells).least()
        self.assertEqual((deeds, rows, tells), (["a", "b"], [[0, 1], [1, 0]], ["x", "y"]))

    def test_the_limits_are_allowed(self):
        deeds = ["a", "z9", "abcdefghijkl", "a12345678901", "zz", "q"]
        tells = ["x" * 60, "/", "0", "a/9"] * 15
        made = Machine(deeds, [[59] * 6] * 60, tells, 59)
        self.assertEqual((len(made), made.deeds, made.start), (60, tuple(deeds), 59))
        self.assertEqual(len(Machine(["a"], [[0]], ["x"])), 1)

    def test_equal_to_the_same_parts_alone(self):
        made = Machine(["a", "b"], [[0, 1], [1, 0]], ["x", "y"], 1)
        self.assertTrue(made == Machine(("a", "b"), ((0, 1), (1, 0)), ("x", "y"), 1))
        self.assertFalse(made != Machine(("a", "b"), ((0, 1), (1, 0)), ("x", "y"), 1))
        others = [
            Machine(["b", "a"], [[0, 1], [1, 0]], ["x", "y"], 1),
            Machine(["a", "b"], [[0, 1], [1, 1]], ["x", "y"], 1),
            Machine(["a", "b"], [[0, 1], [1, 0]], ["x", "x"], 1),
            Machine(["a", "b"], [[0, 1], [1, 0]], ["x", "y"], 0),
            Machine(["a", "b"], [[0, 1], [1, 0], [2, 2]], ["x", "y", "x"], 1),
        ]
        for other in others:
            self.assertFalse(made == other)
            self.assertTrue(made != other)

    def test_equal_to_nothing_of_another_kind(self):
        parts = (BACK.deeds, BACK.rows, BACK.tells, BACK.start)
        for other in [*ODD_VALUES, parts, list(parts), 3]:
            self.assertFalse(BACK == other)
            self.assertTrue(BACK != other)


class Errors(ErrorCase):
    def test_deeds(self):
        fine = [[[0] * 3], ["x"], 0]
        for odd in [*ODD_VALUES, 1, 0, "1a", "/", "aA", "abcdefghijklm", "a" * 13, "a_b", "\u0430"]:
            self.assert_error(BadDeeds, [0], Machine, [odd, "b", "c"], *fine)
            self.assert_error(BadDeeds, [1], Machine, ("a", odd, odd), *fine)
            self.assert_error(BadDeeds, [7], Machine, [*SEVEN, odd], *fine)

    def test_deeds_twice_and_none(self):
        fine = [[[0, 0]], ["x"], 0]
        self.assert_error(BadDeeds, [1], Machine, ["a", "a"], *fine)
        self.assert_error(BadDeeds, [2], Machine, ["a", "b", "a", 7], *fine)
        self.assert_error(BadDeeds, [2], Machine, ["a", "b", 7, "a"], *fine)
        self.assert_error(BadDeeds, [0], Machine, [], *fine)
        self.assert_error(BadDeeds, [0], Machine, (), [], [], True)

    def test_too_many_deeds(self):
        self.assert_error(TooMany, ["deeds", 7, 6], Machine, SEVEN, [[0] * 7], ["x"])
        self.assert_error(TooMany, ["deeds", 9, 6], Machine, [*SEVEN, "h", "i"], [], [], None)
        self.assert_error(BadDeeds, [7], Machine, [*SEVEN, "a"], [], [], None)

    def test_no_row_and_too_many_rows(self):
        self.assert_error(BadRow, [0], Machine, ["a"], [], ["x"], True)
        self.assert_error(BadRow, [0], Machine, ["a"], (), [], 0)
        self.assert_error(TooMany, ["states", 61, 60], Machine, ["a"], [[0]] * 61, ["x"] * 61)
        self.assert_error(TooMany, ["states", 70, 60], Machine, ["a"], [None] * 70, [None], True)

    def test_rows(self):
        odd_rows = [
            None, 0, "00", {0: 0, 1: 0}, [], [0], [0, 0, 0], (0,), [0, 2], [-1, 0], [0, True], [False, 0], [0, None],
            [0, "0"], [0, [0]], (0, 1.0), [0, 10 ** 30],
        ]
        for odd in odd_rows:
            self.assert_error(BadRow, [0], Machine, ["a", "b"], [odd, [0, 1]], ["x", "y"])
            self.assert_error(BadRow, [1], Machine, ["a", "b"], ([0, 1], odd), ["x"], 7)
        self.assert_error(BadRow, [1], Machine, ["a"], [[2], [3], [9]], [None], None)

    def test_tells(self):
        for odd in [*ODD_VALUES, 0, 1, "x" * 61, "X", "x y", "x\n", "x-y", "_", "no "]:
            self.assert_error(BadTell, [0], Machine, ["a"], [[0], [1]], [odd, "x"])
            self.assert_error(BadTell, [1], Machine, ["a"], [[0], [1]], ("x", odd, odd), None)
            self.assert_error(BadTell, [2], Machine, ["a"], [[0], [1]], ["x", "x", odd], 5)

    def test_as_many_tells_as_rows(self):
        for many in (0, 1, 3, 61):
            self.assert_error(Uneven, [many, 2], Machine, ["a"], [[0], [1]], ["x"] * many, True)

    def test_starts(self):
        for odd in [*ODD_VALUES, 2, 60, "0", [0], 0.0]:
            self.assert_error(BadState, [odd], Machine, ["a"], [[0], [1]], ["x", "y"], odd)

    def test_the_first_error_counts(self):
        faults = [
            (BadDeeds, [0], 0, [None, "b"]), (TooMany, ["deeds", 7, 6], 0, SEVEN),
            (BadRow, [0], 1, []), (TooMany, ["states", 61, 60], 1, [[0, 0]] * 61), (BadRow, [0], 1, [[0], [0, 0]]),
            (BadTell, [1], 2, ["x", ""]), (Uneven, [1, 2], 2, ["x"]),
            (BadState, [True], 3, True),
        ]
        for kind, fields, place, wrong in faults:
            for _, _, later, also in faults:
                if later > place:
                    parts = [["a", "b"], [[0, 0], [1, 1]], ["x", "y"], 0]
                    parts[place] = wrong
                    parts[later] = also
                    self.assert_error(kind, fields, Machine, *parts)

    def test_nothing_is_changed_by_an_error(self):
        rows = [[0], [5]]
        self.assert_error(BadRow, [1], Machine, ["a"], rows, ["x", "y"])
        self.assertEqual(rows, [[0], [5]])
        self.assertEqual(len(ring(60)), 60)


if __name__ == "__main__":
    unittest.main()
