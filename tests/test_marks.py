"""Marks and lots: promises [2] and [28] to [31]."""

import itertools
import random
import unittest

from betweenlooks.errors import BadRule, BadState, NoDeed, OtherDeeds, TooMany
from betweenlooks.facts import Count, Done, Latest, Turn
from betweenlooks.histories import History
from betweenlooks.machines import Machine
from betweenlooks.marks import Lot, Mark
from helpers import BACK, ODD_VALUES, ErrorCase, doubled, led, ring
from lookers import RULES, some_mark, some_table

AB = ("a", "b")
PARITY = Mark(Turn(("a",), 2).machine_for(AB), "kept")
LATCH = Mark(Done(("a",)).machine_for(AB), "cleared")
LAST = Mark(Latest(AB).machine_for(AB), "cleared")
LOT = Lot([PARITY, LATCH])
NOT_VALUES = [None, True, False, "0", 0.0, -1, (0,)]


class Marks(ErrorCase):
    def test_attributes(self):
        for rule in RULES:
            mark = Mark(machine=BACK, rule=rule)
            self.assertEqual((mark.machine, mark.rule), (BACK, rule))

    def test_wrong_rules(self):
        for odd in ODD_VALUES + ["Kept", "kept ", "keep", "carried", ("kept",), ["cleared"]]:
            self.assert_error(BadRule, (odd,), Mark, BACK, odd)

    def test_equality(self):
        made = [Mark(machine, rule) for rule in RULES for machine in
                (BACK, ring(2), ring(3), ring(2, ["x", "y"]), Machine(("a",), [[1], [0]], ["x", "x"], 1))]
        again = [Mark(machine, rule) for rule in RULES for machine in
                 (BACK, ring(2), ring(3), ring(2, ["x", "y"]), Machine(("a",), [[1], [0]], ["x", "x"], 1))]
        for (i, a), (j, b) in itertools.product(enumerate(made), enumerate(again)):
            self.assertEqual(a == b, i == j)
            self.assertEqual(a != b, i != j)
        for other in [None, BACK, "kept", (BACK, "kept")]:
            self.assertFalse(Mark(BACK, "kept") == other)

    def test_hides(self):
        self.assertIs(Mark(BACK, "kept").hides, True)
        self.assertIs(PARITY.hides, False)
        self.assertIs(Mark(ring(3), "cleared").hides, True)
        self.assertIs(Mark(ring(1), "cleared").hides, False)

    def test_only_reached_values_count(self):
        lost = Machine(("a",), [[1], [0], [0]], ["x", "y", "x"])
        self.assertIs(Mark(lost, "kept").hides, False)
        self.assertIs(Mark(Machine(("a",), lost.rows, lost.tells, 2), "kept").hides, True)
        self.assertIs(Mark(doubled(Turn(("a",), 3).machine_for(AB), random.Random(1)), "kept").hides, True)
        self.assertIs(Mark(Machine(("a",), [[0], [0], [0]], ["x", "y", "y"]), "cleared").hides, False)


class Lots(ErrorCase):
    def test_as_the_tuple(self):
        chance = random.Random(31)
        for many in range(7):
            marks = [some_mark(chance, AB) for _ in range(many)]
            lot = Lot(marks)
            self.assertEqual(lot.marks, tuple(marks))
            self.assertIs(lot.marks.__class__, tuple)
            self.assertEqual(len(lot), many)
            self.assertEqual(lot, Lot(tuple(marks)))
            self.assertEqual(lot, Lot(marks=marks))
            self.assertEqual(list(lot), marks)
            self.assertEqual([lot[k] for k in range(-many, many)], marks + marks)
            self.assertEqual(lot[1:], tuple(marks[1:]))
            self.assertEqual(lot[::-1], tuple(marks[::-1]))
            for wrong in (many, -many - 1):
                with self.assertRaises(IndexError):
                    lot[wrong]

    def test_the_list_may_change_behind(self):
        marks = [PARITY, LATCH]
        lot = Lot(marks)
        marks.append(LAST)
        marks[0] = LAST
        self.assertEqual(lot, LOT)

    def test_equality(self):
        made = [Lot([]), Lot([PARITY]), Lot([LATCH]), LOT, Lot([LATCH, PARITY]), Lot([PARITY, PARITY]),
                Lot([Mark(PARITY.machine, "cleared"), LATCH])]
        for (i, a), (j, b) in itertools.product(enumerate(made), enumerate(made)):
            self.assertEqual(a == Lot(list(b.marks)), i == j)
        for other in [None, (), (PARITY,), [PARITY], 0]:
            self.assertFalse(Lot([]) == other)
            self.assertTrue(Lot([PARITY]) != other)

    def test_errors(self):
        swapped = Mark(Done(("a",)).machine_for(("b", "a")), "kept")
        single = Mark(Done(("a",)).machine_for(("a",)), "kept")
        Lot([PARITY] * 6)
        self.assert_error(TooMany, ("marks", 7, 6), Lot, [PARITY] * 7)
        self.assert_error(TooMany, ("marks", 9, 6), Lot, [PARITY] * 6 + [swapped] * 3)
        self.assert_error(OtherDeeds, (AB, ("b", "a")), Lot, [PARITY, LATCH, swapped, single])
        self.assert_error(OtherDeeds, (AB, ("a",)), Lot, (PARITY, single, swapped))
        self.assert_error(OtherDeeds, (("a",), AB), Lot, (single, PARITY))

    def test_begin(self):
        other = Mark(Machine(AB, [[0, 1], [2, 2], [0, 0]], ["x"] * 3, 2), "cleared")
        self.assertEqual(Lot([PARITY, other, LATCH]).begin, (0, 2, 0))
        self.assertEqual(Lot([]).begin, ())


class Values(ErrorCase):
    def test_after_and_look(self):
        self.assertEqual(LOT.after((0, 0), ("a", "b")), (1, 1))
        self.assertEqual(LOT.after([1, 0], ["a"]), (0, 1))
        self.assertEqual(LOT.after(values=(1, 1), row=()), (1, 1))
        self.assertEqual(LOT.look((1, 1)), (("1", "yes"), (1, 0)))
        self.assertEqual(LOT.look(values=[0, 1]), (("0", "yes"), (0, 0)))
        self.assertIs(LOT.look((1, 1)).__class__, tuple)

    def test_by_chance(self):
        chance = random.Random(311)
        for _ in range(100):
            marks = [Mark(Machine(AB, some_table(chance, AB, 4, None).rows, list("wxyz"), chance.randrange(4)),
                          chance.choice(RULES)) for _ in range(chance.randint(1, 6))]
            lot = Lot(marks)
            values = [chance.randrange(4) for _ in marks]
            row = chance.choices(AB, k=chance.randint(0, 5))
            self.assertEqual(lot.after(values, row),
                             tuple(led(mark.machine, value, row) for mark, value in zip(marks, values)))
            self.assertEqual(lot.look(values), (
                tuple("wxyz"[value] for value in values),
                tuple(value if mark.rule == "kept" else mark.machine.start for mark, value in zip(marks, values))))

    def test_errors(self):
        lot = Lot([PARITY, LATCH, LAST])
        for odd in NOT_VALUES + [3, 10 ** 30]:
            self.assert_error(BadState, (2,), lot.after, (1, 1, odd), ("z",))
            self.assert_error(BadState, (0,), lot.after, [odd, 1, odd], ("z",))
            self.assert_error(BadState, (2,), lot.look, (1, 1, odd))
            self.assert_error(BadState, (1,), lot.look, [0, odd, odd])
        self.assert_error(BadState, (0,), lot.after, (2, 0, 0), ())
        self.assert_error(BadState, (1,), lot.look, (1, 2, 2))
        self.assert_error(NoDeed, (0,), lot.after, (1, 1, 2), ("z", "a"))
        for odd in ODD_VALUES + ["z"]:
            self.assert_error(NoDeed, (2,), lot.after, (1, 1, 2), ["a", "b", odd, odd])

    def test_the_empty_lot(self):
        self.assertEqual(Lot([]).after((), ("a", "z")), ())
        self.assertEqual(Lot([]).after([], []), ())
        self.assertEqual(Lot([]).look(()), ((), ()))


class Readings(ErrorCase):
    def test_by_hand(self):
        history = History.read("a | | a b a | b |")
        self.assertEqual(LOT.readings(history), [("1", "yes"), ("1", "no"), ("1", "yes"), ("1", "no")])
        self.assertEqual(Lot([LAST]).readings(history), [("a",), ("0",), ("a",), ("b",)])
        self.assertEqual(LOT.readings(history=History()), [])

    def test_cleared_marks_begin_anew(self):
        for rule, wanted in [("kept", ["1", "2", "2"]), ("cleared", ["1", "1", "0"])]:
            lot = Lot([Mark(Count(("a",), 5).machine_for(AB), rule)])
            self.assertEqual(lot.readings(History.read("a | a | b |")), [(tell,) for tell in wanted])
        begun = Mark(Machine(("a",), [[1], [2], [2]], ["x", "y", "z"], 1), "cleared")
        self.assertEqual(Lot([begun]).readings(History.read("| a | |")), [("y",), ("z",), ("y",)])

    def test_by_the_definition(self):
        chance = random.Random(312)
        for _ in range(60):
            lot = Lot([some_mark(chance, AB, 4) for _ in range(chance.randint(1, 4))])
            history = History([chance.choices(AB, k=chance.randint(0, 3)) for _ in range(5)])
            wanted = []
            for k in range(5):
                whole = [deed for row in history.stretches[:k + 1] for deed in row]
                wanted.append(tuple(mark.machine.told(whole if mark.rule == "kept" else history[k])
                                    for mark in lot.marks))
            self.assertEqual(lot.readings(history), wanted)
            alone = [[reading[0] for reading in Lot([mark]).readings(history)] for mark in lot.marks]
            self.assertEqual(list(zip(*alone)), wanted)

    def test_a_history_in_two_parts(self):
        chance = random.Random(313)
        for _ in range(40):
            lot = Lot([some_mark(chance, AB, 4) for _ in range(3)])
            one = History([chance.choices(AB, k=chance.randint(0, 3)) for _ in range(2)])
            two = History([chance.choices(AB, k=chance.randint(0, 3)) for _ in range(2)])
            values, readings = lot.begin, []
            for row in (one + two):
                shown, values = lot.look(lot.after(values, row))
                readings.append(shown)
            self.assertEqual(lot.readings(one + two), readings)
            self.assertEqual(lot.readings(one + two)[:2], lot.readings(one))

    def test_foreign_deeds(self):
        self.assert_error(NoDeed, (0,), LOT.readings, History.read("z |"))
        self.assert_error(NoDeed, (3,), LOT.readings, History.read("a | | b a z | y |"))
        self.assert_error(NoDeed, (3,), Lot([LATCH]).readings, History.read("a | | b a z | y |"))
        self.assert_error(NoDeed, (1,), Lot([LATCH] * 6).readings, History.read("a | z |"))
        self.assertEqual(Lot([]).readings(History.read("z | y |")), [(), ()])
        self.assertEqual(Lot([]).readings(History()), [])


if __name__ == "__main__":
    unittest.main()
