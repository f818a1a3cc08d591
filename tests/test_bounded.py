"""The least cleared mark under a timing: promise [49], and the errors of [44] that go with it."""

import itertools
import random
import unittest

from betweenlooks.acts import Act, acts
from betweenlooks.clashes import suffices
from betweenlooks.errors import BadRule, NoDeed, NoLeast, TooMany
from betweenlooks.least import least
from betweenlooks.machines import Machine
from betweenlooks.marks import Lot, Mark
from betweenlooks.questions import Question
from betweenlooks.timings import Timing
from helpers import BACK, ErrorCase, led, ring, rows_up_to
from lookers import KINDS, LATE, RULES, count_places, some_history, some_table

AB, X = ("a", "b"), ("x",)
ALLOWED = ("carried", "joined", "taken")


def act(core, row):
    return tuple(led(core, state, row) for state in range(len(core)))


def some_case(chance, states=4):
    deeds = ("a", "b", "c")[:chance.randint(1, 3)]
    question = Question(some_table(chance, deeds, chance.randint(1, states), ("no", "yes", "x")),
                        chance.choice(ALLOWED))
    owed = chance.sample(deeds, chance.choice([0, 0, 1, 1, len(deeds)]))
    most = chance.choice([0, 1, 2, 3, None])
    return question, Timing(1 if most is None and not owed else most, owed)


def few_acts(question):
    try:
        return len(acts(question.core)) <= 60
    except TooMany:
        return False


def stretches(question, timing):
    """The rows that may be a stretch, as far as they are no longer than there are acts, or a few more."""
    found, layer = {(): None}, [()]
    while layer:
        later = []
        for row in layer:
            for deed in question.deeds:
                longer = row + (deed,)
                # Of rows with one act, and as many deeds where that matters, only one need be gone on with.
                many = None if timing.most is None else len(longer)
                key = (act(question.core, longer), many, deed in timing.owed)
                if timing.allows(longer) and key not in found.values():
                    found[longer] = key
                    later.append(longer)
        layer = later
    return list(found)


def wanted(question, timing):
    """The acts that are the values, and where the deeds lead them, by the words of [49]."""
    core = question.core
    rows = stretches(question, timing)
    possible = {act(core, row) for row in rows}
    values = [one.states for one, _ in acts(core) if one.states in possible]
    table = []
    for value in values:
        table.append([])
        for deed in question.deeds:
            may_follow = any(act(core, row) == value and timing.allows(row + (deed,)) for row in rows)
            after = tuple(led(core, state, (deed,)) for state in value)
            table[-1].append(values.index(after if may_follow else value))
    return values, table


class Values(ErrorCase):
    def test_by_the_words(self):
        chance = random.Random(49)
        seen = {}
        for _ in range(300):
            question, timing = some_case(chance)
            if not few_acts(question):
                continue
            found = least(question, "cleared", timing)
            values, table = wanted(question, timing)
            self.assertEqual([meaning.states for meaning in found.meanings], values)
            self.assertTrue(all(isinstance(meaning, Act) for meaning in found.meanings))
            tells = [f"v{k}" for k in range(len(values))]
            self.assertEqual(found.mark, Mark(Machine(question.deeds, table, tells), "cleared"))
            self.assertEqual(found.rows, [row for _, row in sorted(found.mark.machine.reached())])
            self.assertEqual((found.question, found.rule, len(found)), (question, "cleared", len(values)))
            seen[(timing.most, len(timing.owed))] = True
        self.assertGreater(len(seen), 10)

    def test_all_short_rows(self):
        """The values are what short rows do, and the mark goes along with them."""
        chance = random.Random(50)
        for _ in range(100):
            question, timing = some_case(chance)
            if timing.most is None or not few_acts(question):
                continue
            found = least(question, "cleared", timing)
            rows = [row for row in rows_up_to(question.deeds, timing.most) if timing.allows(row)]
            self.assertEqual(sorted({act(question.core, row) for row in rows}),
                             sorted(meaning.states for meaning in found.meanings))
            for row in rows:
                self.assertEqual(found.meanings[found.mark.machine.after(row)].states, act(question.core, row))

    def test_by_hand(self):
        asked = Question(BACK)
        self.assertEqual(least(asked, "cleared", Timing(0)).mark.machine.rows, ((0, 0),))
        one = least(asked, "cleared", Timing(1))
        self.assertEqual(([meaning.states for meaning in one.meanings], one.mark.machine.rows),
                         ([(0, 1, 2), (1, 1, 2), (0, 2, 2)], ((1, 2), (1, 1), (2, 2))))
        owed = least(asked, "cleared", Timing(None, ("r",)))
        self.assertEqual(owed.rows, [(), ("f",), ("r",), ("f", "r")])
        self.assertEqual(owed.mark.machine.rows, ((1, 2), (1, 3), (2, 2), (3, 3)))
        self.assertEqual(len(least(asked, "cleared", Timing(10 ** 30))), 5)


class Suffices(ErrorCase):
    def test_it_does_under_the_timing(self):
        chance = random.Random(51)
        seen = 0
        for _ in range(600):
            question, timing = some_case(chance, 3)
            found = least(question, "cleared", timing)
            if count_places(question, Lot([found.mark])) <= 60:
                self.assertTrue(suffices(question, Lot([found.mark]), timing))
                seen += len(found) > 2
        self.assertGreater(seen, 60)

    def test_due_and_standing(self):
        chance = random.Random(52)
        for _ in range(150):
            question, timing = some_case(chance)
            if not few_acts(question):
                continue
            found = least(question, "cleared", timing)
            history, told = some_history(chance, question, timing, 5), chance.randrange(len(question.core))
            due, standing = question.due(history, told), question.standing(history, told)
            for k in range(1 if question.kind in LATE else 0, len(history)):
                now = found.mark.machine.after(history[k])
                state = standing[k - 1] if k else 0
                self.assertEqual((found.due(None, now, state), found.standing(None, now, state)),
                                 (due[k], standing[k]))

    def test_no_mark_with_fewer_values_does(self):
        chance = random.Random(53)
        seen = 0
        while seen < 3000:
            question, timing = some_case(chance, 3)
            deeds = question.deeds
            if len(deeds) > 2 or len(least(question, "cleared", timing)) != 3:
                continue
            for flat in itertools.product(range(2), repeat=2 * len(deeds)):
                rows = [flat[:len(deeds)], flat[len(deeds):]]
                mark = Mark(Machine(deeds, rows, ["v0", "v1"]), "cleared")
                self.assertFalse(suffices(question, Lot([mark]), timing))
                seen += 1


class Errors(ErrorCase):
    def test_no_timing(self):
        for kind in KINDS:
            for rule in RULES:
                question = Question(ring(3, ["no", "yes", "x"], AB), kind)
                one, two = least(question, rule, Timing()), least(question, rule)
                self.assertEqual(one.mark, two.mark)

    def test_other_kinds_and_rules(self):
        for kind, rule in itertools.product(KINDS, RULES):
            for timing in (Timing(0), Timing(10 ** 30), Timing(None, ("f",))):
                if rule == "kept" or kind == "stretch":
                    self.assert_error(NoLeast, (kind, rule), least, Question(BACK, kind), rule, timing)
                else:
                    self.assertLessEqual(len(least(Question(BACK, kind), rule, timing)), 5)

    def test_their_order(self):
        swaps = [[1, 1], [0, 2], [2, 3], [3, 4], [4, 5], [5, 0]]
        many = Machine(AB, swaps, [f"t{k}" for k in range(6)])
        self.assertRaises(TooMany, acts, many)
        for kind in KINDS:
            question = Question(many, kind)
            self.assert_error(BadRule, ("other",), least, question, "other", Timing(1, ("z",)))
            self.assert_error(NoDeed, (1,), least, question, "kept", Timing(1, ("b", "z", "y")))
            self.assert_error(NoLeast, (kind, "kept"), least, question, "kept", Timing(1))
            if kind == "stretch":
                self.assert_error(NoLeast, (kind, "cleared"), least, question, "cleared", Timing(1))
            else:
                self.assert_error(TooMany, ("acts", 301, 300), least, question, "cleared", Timing(1))
                self.assert_error(TooMany, ("states", 61, 60), least, question, "cleared")

    def test_too_many_values(self):
        """120 acts, of which more and more may be those of a stretch."""
        five = Machine(AB, [[1, 1], [0, 2], [2, 3], [3, 4], [4, 0]], [f"t{k}" for k in range(5)])
        question = Question(five)
        for most in range(12):
            rows = [row for row in rows_up_to(AB, most)]
            many = len({act(question.core, row) for row in rows})
            if many > 60:
                self.assert_error(TooMany, ("states", 61, 60), least, question, "cleared", Timing(most))
            else:
                self.assertEqual(len(least(question, "cleared", Timing(most))), many)


if __name__ == "__main__":
    unittest.main()
