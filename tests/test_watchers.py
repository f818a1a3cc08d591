"""Watchers: promises [39] and [40], and what [33], [34] and [42] say of them."""

import random
import time
import unittest

from betweenlooks.clashes import clash, suffices
from betweenlooks.errors import BadState, CannotBe, NoDeed, NoHistory, OtherDeeds, TooMany
from betweenlooks.histories import History
from betweenlooks.machines import Machine
from betweenlooks.marks import Lot, Mark
from betweenlooks.questions import Question
from betweenlooks.timings import Timing
from betweenlooks.watchers import Watcher
from helpers import BACK, ODD_VALUES, ErrorCase, ring
from lookers import (
    KINDS, LATE, Knower, count_places, some_close_lot, some_history, some_lot, some_mark, some_question, some_table,
    some_timing,
)

AB, X = ("a", "b"), ("x",)
HAPPENED = Question(Machine(X, [[1], [1]], ["no", "yes"]), "stretch")
VERSION = Lot([Mark(Machine(X, [[1], [2], [0]], ["v0", "v1", "v2"]), "kept")])


class Odd:
    """A value that seems to be equal to everything."""

    def __eq__(self, other):
        return True

    __hash__ = None


def some_case(chance):
    question = some_question(chance, AB)
    lot = chance.choice([some_lot, some_lot, lambda c, _: some_close_lot(c, question)])(chance, AB)
    return question, lot, chance.choice([None, some_timing(chance, AB)])


def state_for(chance, question):
    return chance.randrange(len(question.core)) if question.kind == "taken" else None


class Examples(ErrorCase):
    def test_a_version_number_with_at_most_two_deeds(self):
        watcher = Watcher(HAPPENED, VERSION, Timing(2))
        self.assertEqual(watcher.look(("v0",)), "no")
        self.assertEqual(watcher.look(("v2",)), "yes")
        self.assertEqual(watcher.look(("v2",)), "no")
        self.assertEqual(watcher.coming(), [("v0",), ("v1",), ("v2",)])

    def test_a_version_number_without_a_limit(self):
        watcher = Watcher(HAPPENED, VERSION)
        self.assertIsNone(watcher.look(("v0",)))
        self.assertEqual(watcher.possible_answers, ("no", "yes"))
        self.assertEqual(watcher.possible_states, (0, 1))
        example = watcher.example("yes")
        self.assertEqual(len(example), 1)
        self.assertEqual(len(example.whole) % 3, 0)
        self.assertGreater(len(example.whole), 0)
        self.assertEqual(watcher.example("no"), History.read("|"))


class Knowledge(ErrorCase):
    def snapshot(self, watcher):
        return (watcher.seen, watcher.possible_answers, watcher.possible_states, watcher.coming())

    def assert_like(self, watcher, knower, readings):
        self.assertEqual(watcher.seen, readings)
        self.assertEqual([kind.__class__ for kind in watcher.seen], [tuple] * len(readings))
        self.assertEqual(watcher.possible_answers, knower.answers)
        self.assertEqual(watcher.possible_states, knower.states)
        self.assertEqual(watcher.coming(), sorted(knower.groups()))

    def assert_examples(self, watcher, question, lot, timing, state):
        for answer in watcher.possible_answers:
            found = watcher.example(answer)
            self.assertTrue((timing or Timing()).kept(found, question.kind))
            self.assertEqual(lot.readings(found), watcher.seen)
            self.assertEqual(question.due(found, state)[-1], answer)
        for other in ["maybe", "x", Odd(), *ODD_VALUES]:
            self.assert_error(NoHistory, (other,), watcher.example, other)

    def wrong_readings(self, chance, watcher, lot):
        """Values that are no reading that may come."""
        coming = watcher.coming()
        wrong = [("zz",) * len(lot), ("v0",) * (len(lot) + 1), (Odd(),) * (len(lot) + 1), [Odd()] * len(lot) or None,
                 Odd(), "v0", {(): 1}, {"v0"}, [[]], ((),), (("v0",),), *ODD_VALUES]
        right = coming + [list(reading) for reading in coming]
        return [value for value in chance.sample(wrong, 8)
                if not any(value.__class__ in (list, tuple) and value == reading for reading in right)]

    def test_any_looks(self):
        chance = random.Random(39)
        nones = 0
        for _ in range(220):
            question, lot, timing = some_case(chance)
            state = state_for(chance, question)
            watcher, knower = Watcher(question, lot, timing, state=state), Knower(question, lot, timing, state)
            readings = []
            for _ in range(chance.randint(1, 5)):
                self.assert_like(watcher, knower, readings)
                before = self.snapshot(watcher)
                for value in self.wrong_readings(chance, watcher, lot):
                    self.assert_error(CannotBe, (value,), watcher.look, value)
                self.assertEqual(self.snapshot(watcher), before)
                reading = chance.choice(watcher.coming())
                readings.append(reading)
                answer = watcher.look(list(reading) if chance.random() < 0.5 else reading)
                self.assertEqual(answer, knower.look(reading))
                nones += answer is None
                self.assert_examples(watcher, question, lot, timing, state or 0)
            self.assert_like(watcher, knower, readings)
        self.assertGreater(nones, 50)

    def test_ahead_of_the_first_look(self):
        for kind in KINDS:
            watcher = Watcher(Question(BACK, kind), Lot([]), state=1)
            self.assertEqual((watcher.seen, watcher.possible_answers, watcher.possible_states), ([], (), ()))
            self.assertEqual(watcher.coming(), [()])
            for answer in ["no", "yes", "x", *ODD_VALUES]:
                self.assert_error(NoHistory, (answer,), watcher.example, answer)
            self.assertEqual(watcher.look([]), {"joined": "no", "taken": "no"}.get(kind))

    def test_what_happens_may_be(self):
        """For the readings of any history, the due answer is possible, and what is told is the due answer."""
        chance = random.Random(40)
        for _ in range(200):
            question, lot, timing = some_case(chance)
            state = state_for(chance, question)
            history = some_history(chance, question, timing or Timing(), chance.randint(1, 5))
            watcher = Watcher(question, lot, timing, state=state)
            due = zip(lot.readings(history), question.due(history, state or 0), question.standing(history, state or 0))
            for reading, answer, standing in due:
                self.assertIn(reading, watcher.coming())
                self.assertIn(watcher.look(reading), (answer, None))
                self.assertIn(answer, watcher.possible_answers)
                self.assertIn(standing, watcher.possible_states)
            self.assertEqual(watcher.seen, lot.readings(history))

    def test_lists_that_are_changed_behind(self):
        watcher = Watcher(HAPPENED, VERSION)
        reading = ["v1"]
        watcher.look(reading)
        reading[0] = "v2"
        self.assertEqual(watcher.seen, [("v1",)])
        watcher.seen.append(("v2",))
        watcher.coming().clear()
        self.assertEqual(watcher.seen, [("v1",)])
        self.assertEqual(len(watcher.coming()), 3)
        wrong = ["v7"]
        with self.assertRaises(CannotBe) as caught:
            watcher.look(wrong)
        self.assertIs(caught.exception.reading, wrong)

    def test_copies(self):
        chance = random.Random(41)
        for _ in range(60):
            question, lot, timing = some_case(chance)
            state = state_for(chance, question)
            watcher = Watcher(question, lot, timing, state=state)
            for _ in range(chance.randint(0, 2)):
                watcher.look(chance.choice(watcher.coming()))
            twin = watcher.copy()
            before = self.snapshot(twin)
            self.assertEqual(self.snapshot(watcher), before)
            for _ in range(2):
                watcher.look(chance.choice(watcher.coming()))
            self.assertEqual(self.snapshot(twin), before)
            after = self.snapshot(watcher)
            reading = chance.choice(twin.coming())
            twin.look(reading)
            self.assertEqual(twin.seen, before[0] + [reading])
            self.assertEqual(self.snapshot(watcher), after)
            self.assert_examples(twin, question, lot, timing, state or 0)
            self.assert_examples(watcher, question, lot, timing, state or 0)

    def test_long_rows_of_looks(self):
        chance = random.Random(42)
        begin = time.time()
        for kind in KINDS:
            machine = ring(4, ["no", "no", "yes", "x"], AB)
            lot = Lot([Mark(ring(15, ["v1", "v2", "v3"] * 5, AB), "kept")])
            question = Question(Machine(AB, machine.rows, machine.tells), kind)
            watcher = Watcher(question, lot, state=0)
            for _ in range(60):
                watcher.look(chance.choice(watcher.coming()))
            for answer in watcher.possible_answers:
                found = watcher.example(answer)
                self.assertEqual(lot.readings(found), watcher.seen)
                self.assertEqual(question.due(found)[-1], answer)
        self.assertLess(time.time() - begin, 8)


class Sufficing(ErrorCase):
    def answers_none(self, watcher, looks):
        """Whether some look of the watcher, or of its copies, answers None."""
        for reading in watcher.coming():
            twin = watcher.copy()
            if twin.look(reading) is None or (looks > 1 and self.answers_none(twin, looks - 1)):
                return True
        return False

    def test_exactly_where_a_lot_suffices_no_look_answers_none(self):
        chance = random.Random(43)
        seen = {True: 0, False: 0}
        for _ in range(150):
            question, lot, timing = some_case(chance)
            found = clash(question, lot, timing)
            seen[found is None] += 1
            if found is None:
                for state in range(len(question.core)) if question.kind == "taken" else [None]:
                    self.assertFalse(self.answers_none(Watcher(question, lot, timing, state=state), 3))
                continue
            watcher = Watcher(question, lot, timing, state=found.state)
            told = [watcher.look(reading) for reading in lot.readings(found.first)]
            self.assertIsNone(told[-1])
            # The clash has as few looks as any: ahead of its last look nothing is in doubt.
            self.assertNotIn(None, told[:-1])
            for history in (found.first, found.second):
                self.assertIn(question.due(history, found.state)[-1], watcher.possible_answers)
        self.assertGreater(min(seen.values()), 30)


class Errors(ErrorCase):
    def test_told_states(self):
        for state in [None, True, -1, 3, "0", 1.0, (0,)]:
            self.assert_error(BadState, (state,), Watcher, Question(BACK, "taken"), Lot([]), state=state)
            for kind in KINDS[:3]:
                watcher = Watcher(Question(BACK, kind), Lot([]), state=state)
                watcher.look(())
                self.assertIn(watcher.possible_answers, [("no", "yes"), ("no",)])
        for state, answer in enumerate(["no", "no", "yes"]):
            watcher = Watcher(Question(BACK, "taken"), Lot([]), state=state)
            self.assertEqual(watcher.look(()), answer)
            self.assertEqual(watcher.possible_states, (state,))

    def test_their_order(self):
        big = Question(ring(60, [f"x{k}" for k in range(60)], X), "taken")
        wide, other = Lot([Mark(ring(2, None, X), "kept")]), Lot([Mark(ring(2, None, ("y",)), "kept")])
        self.assert_error(OtherDeeds, (X, ("y",)), Watcher, big, other, Timing(None, ("z",)), state=99)
        self.assert_error(NoDeed, (1,), Watcher, big, wide, Timing(None, ("x", "z")), state=99)
        self.assert_error(TooMany, ("places", 61, 60), Watcher, big, wide, state=99)
        self.assert_error(BadState, (60,), Watcher, big, Lot([]), state=60)
        self.assertEqual(Watcher(big, Lot([]), state=59).look(()), "x59")

    def test_about_sixty_places(self):
        for values, states in [(60, 1), (30, 2), (61, 1), (15, 4), (31, 2), (12, 5), (13, 5)]:
            machine = ring(states, [f"t{k}" for k in range(states)], X)
            for kind in KINDS:
                question, lot = Question(machine, kind), Lot([Mark(ring(min(values, 60), None, X), "kept")])
                if values == 61:
                    lot = Lot([Mark(ring(60, None, X), "kept"), Mark(ring(7, None, X), "cleared")])
                if count_places(question, lot) > 60:
                    self.assert_error(TooMany, ("places", 61, 60), Watcher, question, lot, state=0)
                else:
                    watcher = Watcher(question, lot, state=0)
                    self.assertEqual(len(watcher.coming()), 1)

    def test_late_kinds_were_not_there(self):
        """The first stretch of joined and taken questions may be any row."""
        lot = Lot([Mark(ring(4, ["v0", "v1", "v2", "v3"], X), "kept")])
        for kind in KINDS:
            watcher = Watcher(Question(ring(2, ["no", "yes"], X), kind), lot, Timing(1), state=0)
            self.assertEqual(len(watcher.coming()), 4 if kind in LATE else 2)
            watcher.look(watcher.coming()[-1])
            self.assertEqual(len(watcher.coming()), 2)


class Names(ErrorCase):
    def test_other_names_for_deeds_tells_and_states(self):
        chance = random.Random(44)
        for _ in range(60):
            deeds, other = ("a", "b", "c"), ("go", "b", "x1")
            question = some_question(chance, deeds)
            marks = [some_mark(chance, deeds) for _ in range(2)]
            timing = some_timing(chance, deeds)
            order = chance.sample(range(3), 3)

            def renamed(machine):
                rows = [[row[k] for k in order] for row in machine.rows]
                return Machine([other[k] for k in order], rows, ["q" + tell for tell in machine.tells], machine.start)
            asked = Question(renamed(question.machine), question.kind)
            lot, twin = Lot(marks), Lot([Mark(renamed(mark.machine), mark.rule) for mark in marks[::-1]])
            bound = Timing(timing.most, [other[deeds.index(deed)] for deed in timing.owed])
            self.assertEqual(suffices(question, lot, timing), suffices(asked, twin, bound))
            one = Watcher(question, lot, timing, state=0)
            two = Watcher(asked, twin, bound, state=0)
            for _ in range(3):
                coming = one.coming()
                self.assertEqual(sorted(tuple("q" + tell for tell in reading[::-1]) for reading in coming),
                                 two.coming())
                reading = chance.choice(coming)
                answer = one.look(reading)
                self.assertEqual(two.look(tuple("q" + tell for tell in reading[::-1])), answer and "q" + answer)


class Big(ErrorCase):
    def test_many_deeds(self):
        chance = random.Random(45)
        deeds = ("a", "b", "c", "d", "e", "f")
        begin = time.time()
        for _ in range(20):
            question = Question(some_table(chance, deeds, 5, ("no", "yes")), chance.choice(KINDS))
            lot = Lot([Mark(some_table(chance, deeds, 5, ("x", "y")), "kept"), Mark(ring(2, None, deeds), "cleared")])
            watcher = Watcher(question, lot, Timing(10 ** 30, ("f",)), state=0)
            for _ in range(20):
                watcher.look(chance.choice(watcher.coming()))
        self.assertLess(time.time() - begin, 8)


if __name__ == "__main__":
    unittest.main()
