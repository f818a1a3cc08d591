"""Clashes: promises [33] to [36], the examples of [38], and what [43] and [44] say of marks that suffice."""

import itertools
import random
import unittest

from betweenlooks.clashes import Clash, clash, suffices
from betweenlooks.errors import NoDeed, OtherDeeds, TooMany
from betweenlooks.facts import Done, Latest, Turn
from betweenlooks.histories import History, histories
from betweenlooks.machines import Machine
from betweenlooks.marks import Lot, Mark
from betweenlooks.questions import Question
from betweenlooks.timings import Timing
from helpers import BACK, ErrorCase, doubled, ring
from lookers import (
    KINDS, LATE, acts_machine, count_places, fewest_looks, looked, showing, some_close_lot, some_lot, some_mark,
    some_question, some_table, some_timing,
)

AB, X = ("a", "b"), ("x",)
HAPPENED = Machine(X, [[1], [1]], ["no", "yes"])
VERSION = Lot([Mark(Machine(X, [[1], [2], [0]], ["v0", "v1", "v2"]), "kept")])
TWICE = Machine(AB, [[1, 0], [2, 0], [2, 2]], ["no", "no", "yes"])
ODD = Machine(AB, [[1, 2], [0, 0], [0, 0]], ["none", "a", "b"])
COPIES = Lot([Mark(Machine(AB, [[1, 2], [0, 3], [0, 3], [1, 2]], ["v0", "v1", "v2", "v3"]), "kept")])
PLACES = ("places", 61, 60)


def read(first, second, state=None):
    return Clash(History.read(first), History.read(second), state)


class Examples(ErrorCase):
    def test_version_numbers(self):
        asked = Question(HAPPENED, "stretch")
        found = clash(asked, VERSION)
        self.assertEqual(found.looks, 1)
        self.assertTrue(found.shows(asked, VERSION))
        self.assertTrue(read("|", "x x x |").shows(asked, VERSION))
        self.assertEqual(VERSION.readings(History.read("x x x |")), [("v0",)])
        self.assertFalse(read("|", "x x |").shows(asked, VERSION))
        self.assertIsNone(clash(asked, VERSION, Timing(2)))
        self.assertTrue(suffices(asked, VERSION, Timing(2)))
        self.assertFalse(suffices(asked, VERSION, Timing(3)))

    def test_twice_in_a_stretch(self):
        asked, lot = Question(TWICE), Lot([Mark(TWICE, "cleared")])
        self.assertEqual(clash(asked, lot).looks, 2)
        self.assertTrue(read("a | a |", "a | b |").shows(asked, lot))
        self.assertFalse(suffices(asked, lot))

    def test_the_last_deed_if_many_are_odd(self):
        self.assertTrue(suffices(Question(ODD, "joined"), COPIES))
        taken = Question(ODD, "taken")
        found = clash(taken, COPIES)
        self.assertEqual(found.looks, 2)
        self.assertTrue(found.shows(taken, COPIES))
        self.assertTrue(read("a a | |", "a a | b a |", 2).shows(taken, COPIES))
        self.assertFalse(read("a a | |", "a a | b a |", 0).shows(taken, COPIES))


class Shown(ErrorCase):
    def test_attributes_and_looks(self):
        one, two = History.read("x | |"), History.read("| x |")
        made = Clash(one, two)
        self.assertEqual((made.first, made.second, made.state, made.looks), (one, two, None, 2))
        made = Clash(first=History(), second=two, state=3)
        self.assertEqual((made.first, made.second, made.state, made.looks), (History(), two, 3, 0))

    def test_equality(self):
        made = [read("|", "x |"), read("x |", "|"), read("|", "x |", 0), read("|", "x |", 1), read("|", "| |"),
                read("| |", "x |")]
        again = [read("|", "x |"), read("x |", "|"), read("|", "x |", 0), read("|", "x |", 1), read("|", "| |"),
                 read("| |", "x |")]
        for (i, a), (j, b) in itertools.product(enumerate(made), enumerate(again)):
            self.assertEqual(a == b, i == j)
            self.assertEqual(a != b, i != j)
        for other in [None, ("|", "x |"), 0]:
            self.assertFalse(made[0] == other)

    def shown_plainly(self, found, question, lot, timing):
        """Whether it is a clash, by the definition."""
        one, two = found.first, found.second
        if len(one) != len(two) or len(one) == 0:
            return False
        if question.kind == "taken" and found.state not in range(len(question.core)):
            return False
        for history in (one, two):
            bound = history.stretches[1:] if question.kind in LATE else history.stretches
            if not set(history.whole) <= set(question.deeds) or not all(timing.allows(row) for row in bound):
                return False
        told = found.state if question.kind == "taken" else 0
        return lot.readings(one) == lot.readings(two) and question.due(one, told)[-1] != question.due(two, told)[-1]

    def test_by_the_definition(self):
        chance = random.Random(33)
        seen = {}
        for _ in range(1500):
            question, timing = some_question(chance, AB), some_timing(chance, AB)
            lot = Lot([Mark(some_table(chance, AB, 2, ("x", "y")), chance.choice(("kept", "cleared")))])
            found = clash(question, lot, timing)
            one = [list(row) for row in (found.first if found else [chance.choices(AB, k=2), []])]
            two = [list(row) for row in (found.second if found else [chance.choices(AB, k=1), []])]
            spoil = chance.randint(0, 7)
            if spoil < 3:
                chance.choice(chance.choice([one, two])).append(chance.choice(["a", "b", "b", "z"]))
            elif spoil == 3:
                one.append([])
            elif spoil == 4:
                two.insert(0, [])
                one.insert(0, [])
            elif spoil == 5:
                one, two = one[1:], two[1:]
            state = chance.choice([None, 0, 1, 2, 9, found.state if found else 0])
            spoiled = Clash(History(one), History(two), state)
            wanted = self.shown_plainly(spoiled, question, lot, timing)
            self.assertIs(spoiled.shows(question, lot, timing), wanted)
            self.assertIs(spoiled.shows(question=question, lot=lot, timing=timing), wanted)
            seen[(question.kind, wanted)] = seen.get((question.kind, wanted), 0) + 1
        self.assertEqual(len(seen), 8)
        self.assertGreater(min(seen.values()), 20)

    def test_no_clashes(self):
        asked = Question(HAPPENED, "stretch")
        for first, second in [("", ""), ("|", "|"), ("|", "x x x | |"), ("| |", "x x x |"), ("z |", "x x x |"),
                              ("|", "x x z |"), ("", "|")]:
            self.assertIs(read(first, second).shows(asked, VERSION), False)
            self.assertIs(read(second, first).shows(asked, VERSION), False)
        self.assertIs(read("|", "x x x |").shows(asked, VERSION, Timing(3)), True)
        self.assertIs(read("|", "x x x |").shows(asked, VERSION, Timing(2)), False)
        self.assertIs(read("|", "x x x |").shows(asked, VERSION, Timing(None, X)), False)
        self.assertIs(read("|", "x x x |").shows(asked, VERSION, Timing(None, ("z",))), True)
        self.assertIs(read("|", "x x x |").shows(asked, Lot([])), True)

    def test_told_states(self):
        taken = Question(BACK, "taken")
        lot = Lot([])
        for wrong in [None, True, -1, 3, "0", 1.0, (0,)]:
            self.assertIs(read("| r |", "| |", wrong).shows(taken, lot), False)
        self.assertEqual([read("| r |", "| |", state).shows(taken, lot) for state in range(3)], [False, True, False])
        for kind in KINDS[:3]:
            for state in [None, -1, "x", 7]:
                self.assertIs(read("| f r |", "| |", state).shows(Question(BACK, kind), lot), True)

    def test_other_deeds(self):
        foreign = Lot([Mark(Done(("a",)).machine_for(("b", "a")), "kept")])
        for kind in KINDS:
            question = Question(TWICE, kind)
            self.assert_error(OtherDeeds, (AB, ("b", "a")), read("z | |", "|", None).shows, question, foreign)
            self.assert_error(OtherDeeds, (AB, ("b", "a")), clash, question, foreign, Timing(None, ("z",)))
            self.assert_error(OtherDeeds, (AB, ("b", "a")), suffices, question, foreign)
            self.assertIs(read("z | |", "|").shows(question, Lot([])), False)


class Found(ErrorCase):
    def assert_right(self, question, lot, timing=None):
        """The answers are right; returns the number of looks of the clash."""
        wanted = fewest_looks(question, lot, timing)
        found = clash(question, lot, timing)
        self.assertIs(suffices(question, lot, timing), wanted is None)
        if wanted is None:
            self.assertIsNone(found)
        else:
            self.assertTrue(found.shows(question, lot, timing))
            self.assertEqual(found.looks, wanted)
            if question.kind != "taken":
                self.assertIsNone(found.state)
        return wanted

    def assert_right_by_chance(self, chance, times, lot_for, timing_for):
        """Right answers for any questions; returns how often each kind had a clash of each number of looks."""
        seen = {kind: {} for kind in KINDS}
        for _ in range(times):
            deeds = AB if chance.random() < 0.8 else ("a", "b", "c")
            question = Question(some_table(chance, deeds, chance.randint(1, 5), ("no", "yes")), chance.choice(KINDS))
            lot = lot_for(chance, question)
            if count_places(question, lot) <= 60:
                looks = self.assert_right(question, lot, timing_for(chance, deeds))
                seen[question.kind][looks] = seen[question.kind].get(looks, 0) + 1
        return seen

    def test_any_lots(self):
        for number, timing_for in [(34, lambda chance, deeds: None), (341, some_timing)]:
            seen = self.assert_right_by_chance(random.Random(number), 400, lambda chance, question: some_lot(
                chance, question.deeds), timing_for)
            for kind in KINDS:
                self.assertTrue({None, 2 if kind in LATE else 1} <= set(seen[kind]))

    def test_lots_that_do_much_of_what_is_asked(self):
        for number, timing_for in [(343, lambda chance, deeds: None), (344, some_timing)]:
            seen = self.assert_right_by_chance(random.Random(number), 700, some_close_lot, timing_for)
            for kind in KINDS:
                self.assertGreaterEqual(len(seen[kind]), 2 if kind == "taken" else 3)

    def test_against_all_short_histories(self):
        chance = random.Random(342)
        short = {looks: histories(AB, looks, 3) for looks in (1, 2)}
        for _ in range(60):
            question, lot, timing = some_question(chance, AB), some_lot(chance, AB), some_timing(chance, AB)
            looks = self.assert_right(question, lot, timing)
            for many in (1, 2):
                groups = {}
                for history in short[many]:
                    if timing.kept(history, question.kind):
                        for told in range(len(question.core)) if question.kind == "taken" else [0]:
                            key = (tuple(lot.readings(history)), told)
                            groups.setdefault(key, set()).add(question.due(history, told)[-1])
                if any(len(answers) > 1 for answers in groups.values()):
                    self.assertIsNotNone(looks)
                    self.assertLessEqual(looks, many)
                    break

    def test_with_doubled_states(self):
        chance = random.Random(343)
        for _ in range(40):
            question, lot = some_question(chance, AB), some_lot(chance, AB, 1)
            wide = Question(doubled(question.machine, chance), question.kind)
            self.assertEqual(wide, question)
            self.assertEqual(self.assert_right(wide, lot), fewest_looks(question, lot))

    def test_the_empty_lot(self):
        for kind in KINDS:
            self.assertEqual(self.assert_right(Question(BACK, kind), Lot([])), 2 if kind in LATE else 1)
            self.assertIsNone(self.assert_right(Question(ring(3, deeds=X), kind), Lot([])))
            self.assertIsNone(self.assert_right(Question(BACK, kind), Lot([]), Timing(0)))
            wanted = {"carried": 2, "stretch": None, "joined": 3, "taken": 2}[kind]
            self.assertEqual(self.assert_right(Question(BACK, kind), Lot([]), Timing(1)), wanted)

    def test_a_lot_that_shows_the_state(self):
        chance = random.Random(346)
        for _ in range(40):
            machine = some_table(chance, AB, 4, ("no", "yes"))
            kept, cleared = Lot([Mark(showing(machine), "kept")]), Lot([Mark(showing(machine), "cleared")])
            self.assertTrue(suffices(Question(machine), kept))
            self.assertTrue(suffices(Question(machine, "stretch"), cleared))

    def test_no_deeds_between_looks(self):
        for kind in KINDS:
            for owed in ((), ("f",), ("f", "r")):
                self.assertIsNone(clash(Question(BACK, kind), Lot([]), Timing(0, owed)))

    def test_owed_deeds(self):
        asked = Question(HAPPENED, "stretch")
        self.assertTrue(suffices(asked, VERSION, Timing(None, X)))
        self.assertTrue(suffices(asked, VERSION, Timing(owed=X)))
        two = Question.of(Turn(("a", "b"), 3), AB, "stretch")
        parity = Lot([Mark(Turn(("a", "b"), 2).machine_for(AB), "cleared")])
        self.assertFalse(suffices(two, parity))
        self.assertFalse(suffices(two, parity, Timing(None, ("a",))))
        self.assertTrue(suffices(two, parity, Timing(None, AB)))
        self.assertTrue(suffices(two, parity, Timing(1, ("a",))))
        self.assertFalse(suffices(two, parity, Timing(2, ("a",))))

    def test_the_owed_deed_counts_among_the_most(self):
        """Only the row b a leads to the answer: with one deed it does not fit."""
        asked = Question(Machine(AB, [[0, 1], [2, 1], [2, 2]], ["no", "no", "yes"]), "stretch")
        for most, enough in [(0, True), (1, True), (2, False)]:
            self.assertIs(suffices(asked, Lot([]), Timing(most, ("a",))), enough)
            self.assertIs(suffices(asked, Lot([]), Timing(most)), enough)

    def test_the_first_stretch_of_late_kinds_is_free(self):
        """Whether the kept mark is at 0 at the first look is not known, though no deed may happen behind it."""
        chance = random.Random(345)
        for kind in LATE:
            seen = 0
            for _ in range(60):
                question, lot = some_question(chance, AB, kind), some_lot(chance, AB, 1)
                seen += self.assert_right(question, lot, Timing(1, ("a",))) is not None
            self.assertGreater(seen, 5)

    def test_the_same_timing_told_otherwise(self):
        asked = Question(BACK)
        self.assertEqual(clash(asked, Lot([]), None), clash(asked, Lot([]), Timing()))
        self.assertEqual(clash(question=asked, lot=Lot([]), timing=Timing(10 ** 30)).looks, 1)


class Places(ErrorCase):
    def assert_places(self, question, lot):
        many = count_places(question, lot)
        for timing in (None, Timing(0), Timing(1, question.deeds)):
            if many > 60:
                self.assert_error(TooMany, PLACES, clash, question, lot, timing)
                self.assert_error(TooMany, PLACES, suffices, question, lot, timing)
            else:
                suffices(question, lot, timing)
        return many

    def test_rings_about_sixty_places(self):
        seen = set()
        for values, states in [(60, 1), (30, 2), (31, 2), (12, 5), (15, 4), (15, 5), (8, 7), (7, 9), (3, 20), (3, 40)]:
            machine = ring(states, ["no"] * (states - 1) + ["yes"], X)
            for kind in KINDS:
                for rules in (("kept",), ("kept", "cleared")):
                    lot = Lot([Mark(ring(values, None, X), rule) for rule in rules])
                    seen.add(self.assert_places(Question(machine, kind), lot))
        self.assertTrue({60, 62} <= seen, sorted(seen))

    def test_just_sixty_and_sixty_one(self):
        chance = random.Random(35)
        seen = {}
        while min([seen.get((kind, many), 0) for kind in KINDS for many in (60, 61)]) < 1:
            kind = chance.choice(KINDS)
            question = Question(some_table(chance, AB, chance.randint(1, 8), ("no", "yes", "x")), kind)
            lot = Lot([Mark(some_table(chance, AB, chance.randint(1, 12), None), chance.choice(("kept", "cleared")))
                       for _ in range(chance.randint(1, 2))])
            if 60 <= count_places(question, lot) <= 61:
                many = self.assert_places(question, lot)
                seen[(kind, many)] = seen.get((kind, many), 0) + 1

    def test_the_joined_and_the_taken_kind_add_places(self):
        machine = ring(6, ["no"] * 5 + ["yes"], X)
        lot = Lot([Mark(ring(10, None, X), "kept")])
        self.assertEqual([self.assert_places(Question(machine, kind), lot) for kind in KINDS], [30, 60, 60, 60])
        lot = Lot([Mark(ring(12, None, X), "kept")])
        self.assertEqual([self.assert_places(Question(machine, kind), lot) for kind in KINDS], [12, 72, 72, 72])

    def test_behind_the_other_errors(self):
        question, lot = Question(ring(60, [f"x{k}" for k in range(60)], X)), Lot([Mark(ring(59, None, X), "kept")])
        for call in (clash, suffices):
            self.assert_error(TooMany, PLACES, call, question, lot)
            self.assert_error(NoDeed, (0,), call, question, lot, Timing(None, ("z",)))
            self.assert_error(NoDeed, (1,), call, question, lot, Timing(3, ("x", "z", "y")))
            self.assert_error(NoDeed, (0,), call, question, Lot([]), Timing(3, ("z", "x")))
            other = Lot([Mark(ring(59, None, ("y",)), "kept")])
            self.assert_error(OtherDeeds, (X, ("y",)), call, question, other, Timing(None, ("z",)))


class Orders(ErrorCase):
    def test_what_is_better_suffices_as_well(self):
        chance = random.Random(36)
        seen = 0
        for _ in range(400):
            question, lot, timing = some_question(chance, AB), some_lot(chance, AB), some_timing(chance, AB)
            if not suffices(question, lot, timing):
                continue
            seen += 1
            self.assertTrue(suffices(question, Lot([*lot.marks, some_mark(chance, AB)]), timing))
            self.assertTrue(suffices(question, Lot([Mark(showing(m.machine), m.rule) for m in lot]), timing))
            self.assertTrue(suffices(Question(question.machine.telling({"no": "x", "yes": "x"}), question.kind), lot,
                                     timing))
            tighter = Timing(chance.randint(0, 3) if timing.most is None else timing.most // 2, AB)
            self.assertTrue(suffices(question, lot, tighter))
        self.assertGreater(seen, 80)

    def test_products(self):
        chance = random.Random(211)
        seen = [0, 0]
        for _ in range(200):
            one = some_question(chance, AB)
            other = some_question(chance, AB, one.kind)
            lot, timing = some_lot(chance, AB, 1), some_timing(chance, AB)
            if count_places(one * other, lot) > 60:
                continue
            wanted = suffices(one, lot, timing) and suffices(other, lot, timing)
            self.assertIs(suffices(one * other, lot, timing), wanted)
            seen[wanted] += 1
        self.assertGreater(min(seen), 20)

    def test_joined_as_stretch_or_as_carried(self):
        chance = random.Random(191)
        seen = {}
        for _ in range(200):
            machine = some_table(chance, AB, chance.randint(1, 3), ("no", "yes"))
            shown = showing(some_table(chance, AB, chance.randint(1, 4), None))
            for rule, kind in (("kept", "stretch"), ("cleared", "carried")):
                lot = Lot([Mark(shown, rule)])
                wanted = suffices(Question(machine, kind), lot)
                self.assertIs(suffices(Question(machine, "joined"), lot), wanted)
                seen[(rule, wanted)] = seen.get((rule, wanted), 0) + 1
        self.assertGreater(min(seen.values()), 20)
        self.assertEqual(len(seen), 4)


class LeastMarks(ErrorCase):
    def one_mark(self, question, machine, rule):
        return suffices(question, Lot([Mark(machine, rule)]))

    def test_marks_that_suffice(self):
        chance = random.Random(44)
        for _ in range(40):
            machine = some_table(chance, AB, chance.randint(1, 3), ("no", "yes"))
            carried = Question(machine)
            acts = acts_machine(carried)
            self.assertTrue(self.one_mark(carried, showing(carried.core), "kept"))
            self.assertTrue(self.one_mark(Question(machine, "stretch"), showing(carried.core), "cleared"))
            for kind in ("carried", "joined", "taken"):
                question = Question(machine, kind)
                if count_places(question, Lot([Mark(acts, "cleared")])) <= 60:
                    self.assertTrue(self.one_mark(question, acts, "cleared"))

    def test_every_mark_that_suffices_has_as_many_values(self):
        chance = random.Random(441)
        seen = 0
        for _ in range(400):
            machine = some_table(chance, AB, chance.randint(2, 3), ("no", "yes"))
            shown = showing(some_table(chance, AB, chance.randint(1, 5), None).least())
            for kind, rule, least in [("carried", "kept", len(machine.least())),
                                      ("stretch", "cleared", len(machine.least())),
                                      ("carried", "cleared", len(acts_machine(Question(machine)))),
                                      ("joined", "cleared", len(acts_machine(Question(machine)))),
                                      ("taken", "cleared", len(acts_machine(Question(machine))))]:
                if self.one_mark(Question(machine, kind), shown, rule):
                    seen += 1
                    self.assertGreaterEqual(len(shown), least)
        self.assertGreater(seen, 30)

    def test_deeds_that_are_no_swaps(self):
        """No kept mark suffices for a taken question with such a deed, nor if a row leads away from the start."""
        chance = random.Random(442)
        away = [(HAPPENED, "stretch"), (HAPPENED, "joined"), (HAPPENED, "taken"), (BACK, "taken"), (BACK, "stretch"),
                (ODD, "taken")]
        for _ in range(60):
            for machine, kind in away:
                shown = showing(some_table(chance, machine.deeds, chance.randint(1, 5), None))
                self.assertFalse(self.one_mark(Question(machine, kind), shown, "kept"))

    def test_swaps(self):
        swaps = Question(Latest(AB).machine_for(AB).telling({"0": "x", "a": "x", "b": "x"}), "taken")
        self.assertTrue(self.one_mark(swaps, ring(1, deeds=AB), "kept"))
        third = Turn(("a",), 3).machine_for(AB)
        self.assertTrue(self.one_mark(Question(third, "taken"), showing(third), "kept"))
        self.assertTrue(self.one_mark(Question(third, "joined"), showing(third), "kept"))
        self.assertFalse(self.one_mark(Question(third, "taken"), showing(Turn(("a",), 2).machine_for(AB)), "kept"))

    def test_the_looked_values(self):
        self.assertEqual(looked(Lot([Mark(BACK, "kept"), Mark(BACK, "cleared")]), ((1, 1), 0)), (1, 0))


if __name__ == "__main__":
    unittest.main()
