"""Customary marks alone, and how many last deeds matter: promises [56] and [57], and the examples of [58]."""

import random
import time
import unittest

from betweenlooks.acts import act_of, acts
from betweenlooks.clashes import suffices
from betweenlooks.customary import alone, customary, memory
from betweenlooks.errors import BadWay, TooMany
from betweenlooks.facts import Ends
from betweenlooks.machines import Machine
from betweenlooks.marks import Lot, Mark
from betweenlooks.questions import Question
from helpers import BACK, ODD_VALUES, ErrorCase, doubled, led, ring
from lookers import count_places, some_table

WAYS = ("latches", "last", "first", "ends", "counts")
AB, SIX = ("a", "b"), ("a", "b", "c", "d", "e", "f")
DOOR = Machine(("open", "shut"), [[1, 0], [1, 0]], ["no", "yes"])
MANY = Machine(AB, [[1, 1], [0, 2], [2, 3], [3, 4], [4, 5], [5, 0]], [f"t{k}" for k in range(6)])


def act(core, row):
    return tuple(led(core, state, row) for state in range(len(core)))


def doing(core):
    return [deed for deed in core.deeds if act(core, (deed,)) != act(core, ())]


def value_behind(way, value, deed, cycles):
    """The values of all marks of a way behind one more deed that does something."""
    if way == "latches":
        return tuple(sorted({*value, deed}))
    if way == "counts":
        counts = dict(value)
        begin, period = cycles[deed]
        more = counts.get(deed, 0) + 1
        counts[deed] = more if more < begin + period else begin
        return tuple(sorted((key, many) for key, many in counts.items() if many))
    if isinstance(way, int):
        return (value + (deed,))[len(value) + 1 - way:] if len(value) >= way else value + (deed,)
    first, last = (value or (deed, deed))[0], deed
    return {"last": (last, last), "first": (first, first), "ends": (first, last)}[way]


def parted_by(machine, way):
    """Whether the marks of a way, or so many last deeds, part all rows with different acts; goes through all of them."""
    core = machine.least()
    deeds = doing(core)
    steps = {deed: act(core, (deed,)) for deed in deeds}
    cycles = {deed: act_of(core, (deed,)).cycle for deed in deeds}
    begin = (act(core, ()), ())
    waiting, met, known = [begin], {begin}, {}
    while waiting:
        here, value = waiting.pop()
        if known.setdefault(value, here) != here:
            return False
        for deed in deeds:
            later = (tuple(steps[deed][state] for state in here), value_behind(way, value, deed, cycles))
            if later not in met:
                met.add(later)
                waiting.append(later)
    return True


def shown_by(machine, way, row):
    """What all marks of a way show after a row, by the lines of [54]."""
    core = machine.least()
    deeds = doing(core)
    if way == "latches":
        return [customary(core.deeds, f"latch {deed}").told(row) for deed in deeds]
    if way == "counts":
        shown = []
        for deed in deeds:
            begin, period = act_of(core, (deed,)).cycle
            many = row.count(deed)
            shown.append(many if many < begin else begin + (many - begin) % period)
        return shown
    return customary(core.deeds, f"{way} {' , '.join(deeds)}").told(row) if deeds else ""


def some_machine(chance):
    """Any machine with few enough acts."""
    while True:
        machine = any_machine(chance)
        try:
            acts(machine)
        except TooMany:
            continue
        return machine


def any_machine(chance):
    """Any machine; often one whose deeds do the same in some order or other, or do nothing."""
    deeds = SIX[:chance.randint(1, 3)]
    machine = some_table(chance, deeds, chance.randint(1, 5), ("no", "yes", "x"))
    kind = chance.randint(0, 5)
    if kind == 0:
        rows = [[k if chance.random() < 0.3 else (k + j) % 6 for j in range(len(deeds))] for k in range(6)]
        return Machine(deeds, rows, [f"t{chance.randint(0, 3)}" for _ in rows])
    if kind == 1:
        line = chance.choice(["latch a", f"recent {chance.randint(1, 3)} a", "count 3 2 a", "first *", "count 0 4 *",
                              f"recent 2 {' , '.join(deeds)}", f"last {' , '.join(deeds)}",
                              f"first {' , '.join(deeds)}", f"ends {' , '.join(deeds)}"])
        machine = customary(deeds, line)
    if kind == 2:
        rows = [[to[0] for _ in deeds] for to in machine.rows]
        machine = Machine(deeds, rows, machine.tells)
    if kind == 3:
        rows = [[k, *to[1:]] for k, to in enumerate(machine.rows)]
        machine = Machine(deeds, rows, machine.tells)
    return machine


class Examples(ErrorCase):
    def test_failed_and_come_back(self):
        for way in WAYS:
            one, other = alone(BACK, way)
            self.assertNotEqual(act(BACK, one), act(BACK, other))
        self.assertNotEqual(act(BACK, ("f", "r")), act(BACK, ("r", "f")))
        self.assertEqual(act(BACK, ("f", "r", "f")), (2, 2, 2))
        for n in range(1, 5):
            self.assertEqual(act(BACK, ("r",) + ("f",) * n), (1, 2, 2))
            self.assertEqual(act(BACK, ("f",) * n), (1, 1, 2))
        self.assertEqual(memory(machine=BACK)[0], None)

    def test_a_door(self):
        self.assertIsNone(alone(way="last", machine=DOOR))
        self.assertEqual([alone(DOOR, way) is None for way in WAYS], [False, True, False, True, False])
        self.assertEqual(memory(DOOR), (1, None))


class Alone(ErrorCase):
    def assert_alone(self, machine, way):
        """What `alone` tells is right; returns whether the marks are enough."""
        found = alone(machine, way)
        self.assertEqual(found is None, parted_by(machine, way), (way, machine.rows, machine.tells))
        if found is not None:
            one, other = found
            core = machine.least()
            self.assertEqual((found.__class__, one.__class__, other.__class__), (tuple, tuple, tuple))
            self.assertNotEqual(act(core, one), act(core, other))
            self.assertEqual(shown_by(machine, way, one), shown_by(machine, way, other))
        return found is None

    def test_any_machines(self):
        chance = random.Random(56)
        seen = {}
        for _ in range(250):
            machine = some_machine(chance)
            if chance.random() < 0.2 and len(machine) < 25:
                machine = doubled(machine, chance)
            for way in WAYS:
                key = (way, self.assert_alone(machine, way))
                seen[key] = seen.get(key, 0) + 1
        self.assertEqual(len(seen), 10)
        self.assertGreater(min(seen.values()), 20)

    def test_exactly_where_they_suffice_cleared_at_each_look(self):
        chance = random.Random(57)
        seen = {}
        for _ in range(200):
            machine = some_machine(chance)
            core = machine.least()
            deeds = doing(core)
            for way in WAYS:
                lines = [f"latch {deed}" for deed in deeds]
                if way == "counts":
                    cycles = [act_of(core, (deed,)).cycle for deed in deeds]
                    lines = [f"count {begin} {period} {deed}" for (begin, period), deed in zip(cycles, deeds)]
                elif way != "latches":
                    lines = [f"{way} {' , '.join(deeds)}"] if deeds else []
                lot = Lot([Mark(customary(machine.deeds, line), "cleared") for line in lines])
                if count_places(Question(machine), lot) <= 60:
                    enough = suffices(Question(machine), lot)
                    self.assertEqual(alone(machine, way) is None, enough)
                    seen[(way, enough)] = seen.get((way, enough), 0) + 1
        self.assertEqual(len(seen), 10)

    def test_counts_with_great_cycles(self):
        """Deeds that turn rings of 7, 11 and 13 states each; their counts have a great many values together."""
        rows, many = [], 31
        for k in range(many):
            low = 0 if k < 7 else 7 if k < 18 else 18
            size = {0: 7, 7: 11, 18: 13}[low]
            rows.append([low + (k - low + 1) % size])
        # The first deed turns the ring, and a second one leads on to the next ring.
        turns = [[row[0], [7, 18, 0][(k >= 7) + (k >= 18)]] for k, row in enumerate(rows)]
        machine = Machine(AB, turns, [f"t{k}" for k in range(many)])
        begin = time.time()
        self.assertRaises(TooMany, acts, machine)
        self.assert_error(TooMany, ("acts", 301, 300), alone, machine, "counts")
        commuting = Machine(SIX, [[(k + j * j) % 60 for j in range(1, 7)] for k in range(60)],
                            [f"t{k}" for k in range(60)])
        self.assertIsNone(alone(commuting, "counts"))
        self.assertEqual(shown_by(commuting, "last", ("a",)), "1")
        for way in WAYS[:4]:
            one, other = alone(commuting, way)
            self.assertNotEqual(act(commuting, one), act(commuting, other))
            self.assertEqual(shown_by(commuting, way, one), shown_by(commuting, way, other))
        self.assertLess(time.time() - begin, 4)

    def test_deeds_that_do_nothing(self):
        still = Machine(SIX, [[0] * 6], ["t"])
        for way in WAYS:
            self.assertIsNone(alone(still, way))
            wide = Machine(("x", "y"), [[1, 0], [1, 1]], ["no", "yes"])
            self.assertIsNone(alone(wide, way))
        self.assertEqual(memory(still), (0, None))

    def test_other_ways_and_too_many_acts(self):
        for way in [*ODD_VALUES, "latch", "Last", "counts ", "recent"]:
            self.assert_error(BadWay, (way,), alone, MANY, way)
        for way in WAYS:
            self.assert_error(TooMany, ("acts", 301, 300), alone, MANY, way)
        self.assert_error(TooMany, ("acts", 301, 300), memory, MANY)


class Memory(ErrorCase):
    def assert_memory(self, machine):
        """What `memory` tells is right; returns the number, or None."""
        core = machine.least()
        many, rows = memory(machine)
        if many is not None:
            self.assertIsNone(rows)
            self.assertTrue(parted_by(machine, many))
            self.assertFalse(many > 0 and parted_by(machine, many - 1))
            return many
        before, common, again = rows
        self.assertEqual([row.__class__ for row in rows], [tuple] * 3)
        self.assertTrue(again and set(again) <= set(doing(core)))
        one, other, met = act(core, before + common), act(core, common), set()
        step = act(core, again)
        while (one, other) not in met:
            self.assertNotEqual(one, other)
            met.add((one, other))
            one, other = tuple(step[state] for state in one), tuple(step[state] for state in other)
        return None

    def test_any_machines(self):
        chance = random.Random(58)
        seen = {}
        for _ in range(300):
            machine = some_machine(chance)
            many = self.assert_memory(machine)
            seen[many] = seen.get(many, 0) + 1
        self.assertTrue({None, 0, 1, 2, 3} <= set(seen), seen)

    def test_as_many_as_are_asked_for(self):
        for many in range(1, 12):
            self.assertEqual(memory(Ends(("a",) * many).machine_for(AB)), (many, None))
            self.assertEqual(memory(Ends(("a", "b") * 6).machine_for(AB)), (12, None))
        for many in (1, 2, 3):
            self.assertEqual(memory(customary(("a", "b", "c"), f"recent {many} a , b , c"))[0], many)

    def test_rings_never_forget(self):
        for many in (2, 7, 60):
            machine = ring(many, ["yes"] + ["no"] * (many - 1), AB)
            self.assertIsNone(self.assert_memory(machine))

    def test_no_customary_number_is_enough_where_none_is(self):
        """As [57] says it: the rows are not parted by any number of last deeds."""
        chance = random.Random(59)
        for _ in range(60):
            machine = some_machine(chance)
            many, rows = memory(machine)
            if many is None:
                for number in range(4):
                    self.assertFalse(parted_by(machine, number))

    def test_machines_of_sixty_states(self):
        begin = time.time()
        for deeds in (("a",), SIX):
            chain = Machine(deeds, [[min(k + 1, 59)] * len(deeds) for k in range(60)], [f"t{k}" for k in range(60)])
            self.assertEqual(memory(chain), (59, None))
            for way in WAYS:
                self.assertEqual(alone(chain, way) is None, way == "counts")
        self.assertLess(time.time() - begin, 4)


if __name__ == "__main__":
    unittest.main()
