"""Shifts: promises [86] and [87], with [18], [20] and [32], and the shift of [88]."""

import random
import unittest

from betweenlooks.desks import Desk, Shift
from betweenlooks.errors import BadName, BadState, NoDeed, TooLong
from betweenlooks.facts import Done, Latest, Turn
from betweenlooks.histories import History
from betweenlooks.marks import Lot
from betweenlooks.timings import Timing
from deskers import some_desk
from helpers import ODD_VALUES, ErrorCase, led

OS = ("open", "shut")


def example():
    desk = Desk(OS)
    desk.put("last", Latest(OS), "cleared")
    desk.ask("door", Latest(OS))
    desk.limit(3, ("shut",))
    desk.admit("knock")
    return desk


def some_told(chance, desk):
    """States for some of the taken questions."""
    taken = [name for name in desk.questions if desk[name].kind == "taken"]
    return {name: chance.randrange(len(desk[name].core)) for name in taken if chance.random() < 0.7}


def fitting(chance, deeds, timing, stretch):
    """Some deeds that may follow in a stretch."""
    row = ()
    for _ in range(chance.randint(0, 4)):
        more = row + (chance.choice(deeds),)
        if timing.allows(stretch + more):
            row = more
    return row


class Follower:
    """What a shift should tell, by the definitions."""

    def __init__(self, desk, told):
        self.deeds, self.timing = desk.deeds, desk.timing
        self.marks = list(desk.lot)
        self.questions = {name: desk[name] for name in desk.questions}
        self.told = told
        self.values = [mark.machine.start for mark in self.marks]
        self.stretches, self.stretch = [], ()

    def happen(self, row):
        self.values = [led(mark.machine, value, row) for mark, value in zip(self.marks, self.values)]
        self.stretch += tuple(row)

    def look(self):
        shown = tuple(mark.machine.tells[value] for mark, value in zip(self.marks, self.values))
        self.values = [mark.machine.start if mark.rule == "cleared" else value
                       for mark, value in zip(self.marks, self.values)]
        self.stretches.append(self.stretch)
        self.stretch = ()
        history = History(self.stretches)
        due = {name: question.due(history, self.told.get(name, 0))[-1] for name, question in self.questions.items()}
        return (shown, due)


class Example(ErrorCase):
    def test_by_hand(self):
        shift = example().shift()
        self.assertIsNone(shift.happen(("open", "knock")))
        self.assertEqual(shift.look(), (("open",), {"door": "open"}))
        self.assertEqual(shift.look(), (("0",), {"door": "open"}))
        self.assertEqual((shift.history, shift.stretch), (History.read("open knock | |"), ()))


class Shifts(ErrorCase):
    def assert_like(self, shift, follower):
        self.assertEqual(shift.history, History(follower.stretches))
        self.assertEqual((shift.stretch, shift.stretch.__class__), (follower.stretch, tuple))

    def test_deeds_and_looks_in_any_order(self):
        chance = random.Random(87)
        kinds = {}
        for _ in range(250):
            desk, _ = some_desk(chance, 10)
            told = some_told(chance, desk)
            shift, follower = desk.shift(told), Follower(desk, dict(told))
            self.assertIsInstance(shift, Shift)
            told.clear()
            for _ in range(14):
                if chance.random() < 0.4:
                    found = shift.look()
                    self.assertEqual(found, follower.look())
                    self.assertEqual((found.__class__, found[0].__class__), (tuple, tuple))
                    found[1].clear()
                else:
                    row = fitting(chance, follower.deeds, follower.timing, follower.stretch)
                    shift.happen(chance.choice([list, tuple])(row))
                    follower.happen(row)
                self.assert_like(shift, follower)
            for question in follower.questions.values():
                kinds[question.kind] = kinds.get(question.kind, 0) + 1
        self.assertEqual(len(kinds), 4, kinds)
        self.assertGreater(min(kinds.values()), 10, kinds)

    def test_rows_that_are_refused(self):
        chance = random.Random(88)
        seen = {}
        for _ in range(150):
            desk, _ = some_desk(chance, 6)
            shift, follower = desk.shift(), Follower(desk, {})
            for _ in range(8):
                row = tuple(chance.choices(follower.deeds, k=chance.randint(0, 5)))
                if chance.random() < 0.3:
                    at = chance.randrange(len(row) + 1)
                    row = row[:at] + (chance.choice([odd for odd in ODD_VALUES] + ["zzz"]),) + row[at:]
                missing = [k for k, deed in enumerate(row) if deed not in follower.deeds]
                long = [k for k in range(len(row)) if not follower.timing.allows(follower.stretch + row[:k + 1])]
                if missing:
                    self.assert_error(NoDeed, (missing[0],), shift.happen, row)
                    seen["NoDeed"] = seen.get("NoDeed", 0) + 1
                elif long:
                    self.assert_error(TooLong, (long[0],), shift.happen, list(row))
                    seen["TooLong"] = seen.get("TooLong", 0) + 1
                else:
                    shift.happen(row)
                    follower.happen(row)
                self.assert_like(shift, follower)
                if chance.random() < 0.3:
                    self.assertEqual(shift.look(), follower.look())
        self.assertGreater(min(seen["NoDeed"], seen["TooLong"]), 60, seen)

    def test_limits_and_owed_deeds(self):
        shift = example().shift()
        self.assert_error(NoDeed, (3,), shift.happen, ("open", "open", "open", "z", "open"))
        self.assert_error(TooLong, (3,), shift.happen, ("open", "knock", "open", "shut"))
        self.assert_error(TooLong, (1,), shift.happen, ("shut", "open"))
        shift.happen(("knock", "shut"))
        for row in [("knock",), ("shut",), ["open", "open"]]:
            self.assert_error(TooLong, (0,), shift.happen, row)
        shift.happen(())
        self.assertEqual(shift.stretch, ("knock", "shut"))
        self.assertEqual(shift.look(), (("shut",), {"door": "shut"}))
        shift.happen(row=["open"] * 3)
        self.assert_error(TooLong, (0,), shift.happen, ("knock",))

    def test_the_first_stretch_is_not_free(self):
        """Though for joined and taken questions a watcher takes it that it may have been any row."""
        for kind in ("joined", "taken"):
            desk = Desk(("a",))
            desk.put("m", Turn(("a",), 2), "kept")
            desk.limit(1)
            desk.ask("q", Turn(("a",), 2), kind)
            shift = desk.shift()
            self.assert_error(TooLong, (1,), shift.happen, ("a", "a"))
            shift.happen(("a",))
            self.assertEqual(shift.look(), (("1",), {"q": "0"}))
            shift.happen(("a",))
            self.assertEqual(shift.look(), (("0",), {"q": "1"}))

    def test_no_limits(self):
        desk = Desk(("a",))
        desk.ask("q", Done(("b",)))
        shift = desk.shift()
        shift.happen(("a",) * 20000)
        self.assertEqual((len(shift.stretch), shift.look()), (20000, ((), {"q": "no"})))

    def test_long_shifts(self):
        shift = example().shift()
        for k in range(300):
            shift.happen(("open",) if k % 3 == 0 else ("knock", "shut") if k % 3 == 1 else ())
            self.assertEqual(shift.look()[1], {"door": "open" if k % 3 == 0 else "shut"})
        self.assertEqual(len(shift.history), 300)


class Apart(ErrorCase):
    def test_the_desk_is_changed_behind(self):
        chance = random.Random(89)
        for _ in range(40):
            desk, _ = some_desk(chance, 8)
            shift, follower = desk.shift(), Follower(desk, {})
            for _ in range(chance.randint(0, len(desk))):
                desk.undo()
            if len(desk.deeds) < 6:
                desk.admit("zz")
            for _ in range(4):
                row = fitting(chance, follower.deeds, follower.timing, ())
                shift.happen(row)
                follower.happen(row)
                self.assertEqual(shift.look(), follower.look())
            self.assert_error(NoDeed, (0,), shift.happen, ("zz",))

    def test_two_shifts(self):
        desk = example()
        one, two = desk.shift(), desk.shift()
        one.happen(("open",))
        two.happen(("shut",))
        self.assertEqual(one.look()[1], {"door": "open"})
        self.assertEqual((two.history, two.stretch), (History(), ("shut",)))
        self.assertEqual(two.look()[1], {"door": "shut"})
        self.assertEqual(one.look(), (("0",), {"door": "open"}))
        self.assertEqual((len(one.history), len(two.history)), (2, 1))

    def test_a_shift_without_marks_and_questions(self):
        shift = Desk(("a", "b")).shift()
        shift.happen(("a", "b"))
        self.assertEqual(shift.look(), ((), {}))
        self.assertEqual(shift.history, History.read("a b |"))


class Told(ErrorCase):
    def desk(self):
        desk = Desk(("a",))
        desk.put("m", Turn(("a",), 3), "kept")
        desk.ask("t", Turn(("a",), 3), "taken")
        desk.ask("c", Turn(("a",), 3))
        desk.ask("s", Turn(("a",), 3), "taken")
        desk.limit(2)
        return desk

    def test_states(self):
        shift = self.desk().shift(states={"t": 2})
        shift.happen(("a",))
        self.assertEqual(shift.look(), (("1",), {"t": "2", "c": "1", "s": "0"}))
        shift.happen(("a", "a"))
        self.assertEqual(shift.look(), (("0",), {"t": "1", "c": "0", "s": "2"}))
        self.assertEqual(self.desk().shift({}).look()[1], {"t": "0", "c": "0", "s": "0"})

    def test_names_and_states_that_are_wrong(self):
        desk = self.desk()
        for name in ("c", "m", "z", "", "T"):
            self.assert_error(BadName, (name,), desk.shift, {"t": 9, "zz": 0, name: 9})
            self.assert_error(BadName, (name,), desk.shift, {name: 0, "t": -1})
        self.assert_error(BadName, ("a",), desk.shift, {"z": 0, "m": 0, "a": 0, "t": 9})
        for state in [3, -1, True, None, "0", 1.0, (0,), [0]]:
            self.assert_error(BadState, (state,), desk.shift, {"t": state})
            self.assert_error(BadState, (state,), desk.shift, {"t": 7, "s": state})
            self.assert_error(BadState, (state,), desk.shift, {"t": state, "s": 2})
        desk.drop("t")
        self.assert_error(BadName, ("t",), desk.shift, {"t": 0})

    def test_what_a_shift_keeps(self):
        desk = self.desk()
        self.assertEqual((desk.timing, len(desk.lot)), (Timing(2), 1))
        self.assertNotEqual(desk.lot, Lot([]))
        states = {"t": 1}
        shift = desk.shift(states)
        states["t"] = 2
        self.assertEqual(shift.look()[1]["t"], "1")
        self.assertEqual(states, {"t": 2})


if __name__ == "__main__":
    unittest.main()
