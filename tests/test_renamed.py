"""What does not depend on names, orders and numbers, promises [33], [36], [37], [40]; and about sixty places, [35]."""

import itertools
import random
import unittest

from betweenlooks.clashes import clash, rate, suffices
from betweenlooks.errors import BadKind, NoDeed, OtherDeeds, TooMany
from betweenlooks.machines import Machine
from betweenlooks.marks import Lot, Mark
from betweenlooks.questions import Question
from betweenlooks.timings import Timing
from betweenlooks.watchers import Routine, Watcher, routine_of
from helpers import ErrorCase, relabelled, ring
from lookers import KINDS, RULES, count_places, some_close_lot, some_lot, some_question, some_timing

ABC, X = ("a", "b", "c"), ("x",)


class Renaming:
    """Other names and another order for deeds, another order for marks; other numbers and tells for each machine."""

    def __init__(self, chance):
        self.chance = chance
        self.names = dict(zip(ABC, chance.choice([("go", "b", "x1"), ("c", "a", "b"), ("look", "put", "z9")])))
        self.order = chance.sample(range(3), 3)

    def machine(self, machine):
        many = len(machine)
        rows = [[row[k] for k in self.order] for row in machine.rows]
        names = {tell: f"{self.chance.randint(10, 99)}/{tell}" for tell in set(machine.tells)}
        deeds = [self.names[ABC[k]] for k in self.order]
        made = Machine(deeds, rows, [names[tell] for tell in machine.tells], machine.start)
        return relabelled(made, self.chance.sample(range(many), many))

    def question(self, question):
        return Question(self.machine(question.machine), question.kind)

    def lot(self, lot):
        marks = [Mark(self.machine(mark.machine), mark.rule) for mark in lot]
        return Lot(self.chance.sample(marks, len(marks)))

    def owed(self, timing):
        owed = [self.names[deed] for deed in timing.owed]
        return self.chance.sample(owed, len(owed))


class Renamed(ErrorCase):
    def test_other_names(self):
        chance = random.Random(33)
        seen = {}
        for number in range(300):
            question = some_question(chance, ABC)
            lot = some_close_lot(chance, question) if number % 2 else some_lot(chance, ABC)
            timing = some_timing(chance, ABC)
            if count_places(question, lot) > 60:
                continue
            new = Renaming(chance)
            asked, other, bound = new.question(question), new.lot(lot), Timing(timing.most, new.owed(timing))
            one, two = clash(question, lot, timing), clash(asked, other, bound)
            self.assertEqual(one is None, two is None)
            self.assertEqual(suffices(asked, other, bound), one is None)
            if one is not None:
                self.assertEqual(one.looks, two.looks)
                self.assertTrue(two.shows(asked, other, bound))
            self.assertEqual(rate(question, lot, owed=timing.owed)[0], rate(asked, other, owed=bound.owed)[0])
            if question.kind != "taken":
                ahead, behind = Watcher(question, lot, timing), Watcher(asked, other, bound)
                self.assertEqual(len(ahead.coming()), len(behind.coming()))
            seen[one and one.looks] = seen.get(one and one.looks, 0) + 1
        self.assertGreater(len(seen), 3)


class Sixty(ErrorCase):
    def calls(self, question, lot, timing=None):
        owed = () if timing is None else timing.owed
        yield lambda: suffices(question, lot, timing)
        yield lambda: clash(question, lot, timing)
        yield lambda: rate(question, lot, owed=owed)
        yield lambda: Watcher(question, lot, timing, state=0)
        yield lambda: Routine("m", {}).wrong(question, lot, timing)
        yield lambda: routine_of(question, lot, timing)

    def test_rings_of_values_and_states(self):
        seen = {}
        for values, states in [(60, 1), (20, 3), (12, 5), (61, 1), (13, 5), (31, 2), (15, 4), (16, 4), (9, 7), (10, 6)]:
            tells = ["no"] * (states - 1) + ["yes"]
            for kind, rules in itertools.product(KINDS, [("kept",), ("cleared",), ("kept", "cleared"), ()]):
                question = Question(ring(states, tells, X), kind)
                lot = Lot([Mark(ring(min(60, values), None, X), rule) for rule in rules])
                many = count_places(question, lot)
                for call in self.calls(question, lot):
                    if many > 60:
                        self.assert_error(TooMany, ("places", 61, 60), call)
                    else:
                        self.assert_no_places(call, kind)
                seen[many] = seen.get(many, 0) + 1
        self.assertTrue({60, 62, 63, 64, 65} <= set(seen), sorted(seen))

    def assert_no_places(self, call, kind):
        """The call does not find too many places."""
        try:
            call()
        except TooMany as error:
            self.fail(error.what)
        except BadKind as error:
            self.assertEqual((error.kind, kind), ("taken", "taken"))
        except ValueError:
            pass

    def test_behind_the_other_errors(self):
        question = Question(ring(60, [f"x{k}" for k in range(60)], X), "taken")
        lot, other = Lot([Mark(ring(2, None, X), "kept")]), Lot([Mark(ring(2, None, ("y",)), "kept")])
        for call in self.calls(question, other, Timing(None, ("z",))):
            self.assert_error(OtherDeeds, (X, ("y",)), call)
        for call in self.calls(question, lot, Timing(None, ("x", "z"))):
            self.assert_error(NoDeed, (1,), call)
        for call in self.calls(question, lot, Timing(None, X)):
            self.assert_error(TooMany, ("places", 61, 60), call)

    def test_rules_and_kinds_of_two_rings(self):
        for rule, kind in itertools.product(RULES, KINDS):
            question = Question(ring(4, ["t0", "t1", "t2", "t3"], X), kind)
            self.assertLessEqual(count_places(question, Lot([Mark(ring(15, None, X), rule)])), 60)
            self.assertTrue(suffices(question, Lot([Mark(ring(12, [f"v{k}" for k in range(12)], X), rule)]), Timing(0)))


if __name__ == "__main__":
    unittest.main()
