"""The least mark: promises [43] to [48] and the examples [50] to [52]."""

import itertools
import random
import time
import unittest

from betweenlooks.acts import Act, acts
from betweenlooks.clashes import suffices
from betweenlooks.errors import BadRule, BadState, BadValue, OtherDeeds, TooMany
from betweenlooks.facts import Ends, Recent
from betweenlooks.histories import History
from betweenlooks.least import Least, Never, least
from betweenlooks.machines import Machine
from betweenlooks.marks import Lot, Mark
from betweenlooks.questions import Question
from betweenlooks.timings import Timing
from betweenlooks.watchers import Watcher
from helpers import BACK, ODD_VALUES, ErrorCase, led, ring
from lookers import (
    KINDS, LATE, RULES, acts_machine, count_places, showing, some_history, some_mark, some_question, some_table,
)

AB, X = ("a", "b"), ("x",)
ODD = Machine(AB, [[1, 2], [0, 0], [0, 0]], ["none", "a", "b"])
SIX = ("a", "b", "c", "d", "e", "f")


def act(core, row):
    """The act of a row, state by state."""
    return tuple(led(core, state, row) for state in range(len(core)))


def images(core):
    """The image of each act with its first row, in the order of the rows."""
    found, layer = {}, [()]
    while layer:
        later = []
        for row in layer:
            image = tuple(sorted(set(act(core, row))))
            if image not in found:
                found[image] = row
                later += [row + (deed,) for deed in core.deeds]
        layer = later
    return found


def numbered(deeds, begin, step):
    """The table of what a step leads to, beginning with `begin`, and what its states are, in the order of the rows."""
    found, rows = [begin], []
    while len(rows) < len(found):
        led_to = [step(found[len(rows)], deed) for deed in deeds]
        for other in led_to:
            if other not in found:
                found.append(other)
        rows.append([found.index(other) for other in led_to])
    return rows, found


def wanted(question, rule):
    """The table of the least mark and what its values stand for, or the row of a Never, by [44] and [45]."""
    core, kind = question.core, question.kind
    deeds = core.deeds
    cell = {"carried": "QA", "stretch": "CQ", "joined": "CA", "taken": "SA"}[kind][RULES.index(rule)]
    if cell == "Q":
        return core.rows, list(range(len(core)))
    if cell == "C":
        found = images(core)
        never = [row for image, row in found.items() if 0 not in image]
        if never:
            return never[0]
        begin = min(found, key=len)
        return numbered(deeds, begin, lambda states, deed: tuple(led(core, state, (deed,)) for state in states))
    for deed in deeds:
        if cell == "S" and len(set(act(core, (deed,)))) < len(core):
            return (deed,)
    return numbered(deeds, act(core, ()), lambda states, deed: tuple(led(core, state, (deed,)) for state in states))


def some_permuting_question(chance, kind, states=4, deeds=AB):
    """A question whose deeds are swaps, so that there are least kept marks."""
    columns = [chance.sample(range(states), states) for _ in deeds]
    rows = [list(row) for row in zip(*columns)]
    return Question(Machine(deeds, rows, [chance.choice(["no", "yes"]) for _ in range(states)]), kind)


def some_asked(chance, kind):
    if chance.random() < 0.4:
        return some_permuting_question(chance, kind, chance.randint(1, 4))
    deeds = ("a", "b", "c")[:chance.randint(1, 3)]
    return Question(some_table(chance, deeds, chance.randint(1, 5), ("no", "yes", "x")), kind)


def bare(meanings):
    return [meaning.states if isinstance(meaning, Act) else meaning for meaning in meanings]


class Examples(ErrorCase):
    def test_failed_and_come_back(self):
        kept, cleared = least(Question(BACK), "kept"), least(Question(BACK), "cleared")
        self.assertEqual((len(kept), kept.meanings), (3, [0, 1, 2]))
        self.assertEqual(bare(cleared.meanings), [(0, 1, 2), (1, 1, 2), (0, 2, 2), (2, 2, 2), (1, 2, 2)])
        self.assertEqual(cleared.rows, [(), ("f",), ("r",), ("f", "r"), ("r", "f")])
        trap = Lot([Mark(showing(BACK), "cleared")])
        for text in ("f | r |", "f | |"):
            self.assertEqual(trap.readings(History.read(text)), [("v1",), ("v0",)])
        self.assertFalse(suffices(Question(BACK), trap))
        self.assertEqual(least(Question(BACK, "stretch"), "kept").row, ("f",))

    def test_the_last_deed_if_many_are_odd(self):
        self.assertEqual([(one.states, row) for one, row in acts(ODD)], [
            ((0, 1, 2), ()), ((1, 0, 0), ("a",)), ((2, 0, 0), ("b",)), ((0, 1, 1), ("a", "a")),
            ((0, 2, 2), ("a", "b"))])
        late = least(Question(ODD, "joined"), "kept")
        self.assertEqual(late.meanings, [(0, 1), (1, 0), (2, 0), (0, 2)])
        self.assertEqual(late.rows, [(), ("a",), ("b",), ("a", "b")])
        self.assertEqual(late.mark.machine.rows[:2], ((1, 2), (0, 3)))
        self.assertEqual([late.due(0, 2), late.due(3, 1)], ["b", "a"])
        self.assertEqual(least(Question(ODD, "taken"), "kept").row, ("a",))

    def test_has_anything_happened(self):
        asked = Question(Machine(X, [[1], [1]], ["no", "yes"]), "stretch")
        self.assertEqual(least(asked, "kept").row, X)
        self.assertEqual(len(least(asked, "cleared")), 2)


class Tables(ErrorCase):
    def assert_table(self, question, rule):
        """The least mark is that of the table; returns it."""
        found, table = least(question, rule), wanted(question, rule)
        if isinstance(table[0], str):
            self.assertIsInstance(found, Never)
            self.assertEqual((found.question, found.row), (question, table))
            return found
        rows, meanings = table
        self.assertIsInstance(found, Least)
        tells = [f"v{k}" for k in range(len(rows))]
        self.assertEqual(found.mark, Mark(Machine(question.deeds, rows, tells), rule))
        self.assertEqual(bare(found.meanings), meanings)
        self.assertEqual(any(isinstance(meaning, Act) for meaning in found.meanings), found.meanings != meanings)
        self.assertEqual((found.question, found.rule, len(found)), (question, rule, len(rows)))
        self.assertEqual(found.rows, [row for _, row in sorted(found.mark.machine.reached())])
        self.assertEqual([found.mark.machine.after(row) for row in found.rows], list(range(len(rows))))
        return found

    def test_each_cell(self):
        chance = random.Random(44)
        seen = {}
        for kind, rule in itertools.product(KINDS, RULES):
            for _ in range(60):
                question = some_asked(chance, kind)
                try:
                    found = self.assert_table(question, rule)
                except TooMany as error:
                    self.assertEqual((error.what, error.many, error.most), ("states", 61, 60))
                    self.assertGreater(len(wanted(question, rule)[0]), 60)
                    continue
                key = (kind, rule, found.__class__.__name__)
                seen[key] = seen.get(key, 0) + 1
        self.assertEqual(len(seen), 11)
        self.assertGreater(min(seen.values()), 5)

    def test_lists_that_are_changed_behind(self):
        found = least(rule="kept", question=Question(ODD, "joined"))
        found.meanings.clear()
        found.meanings.append((7, 7))
        self.assertEqual(found.meanings, [(0, 1), (1, 0), (2, 0), (0, 2)])
        self.assertEqual(found.due(before=3, now=1, state=5), "a")
        self.assertEqual(found.standing(state=5, now=1, before=3), 1)

    def test_the_same_timing_told_otherwise(self):
        for kind, rule in itertools.product(KINDS, RULES):
            one, two = least(Question(ODD, kind), rule, None), least(Question(ODD, kind), rule, timing=Timing())
            self.assertEqual(one.__class__, two.__class__)
            if isinstance(one, Least):
                self.assertEqual(one.mark, two.mark)


class Suffices(ErrorCase):
    def cases(self, seed, times, most=12):
        """Least marks of any kinds, with few enough places."""
        chance = random.Random(seed)
        for kind, rule in itertools.product(KINDS, RULES):
            for _ in range(times):
                question = some_asked(chance, kind)
                try:
                    found = least(question, rule)
                except TooMany:
                    continue
                if isinstance(found, Least) and len(found) <= most:
                    if count_places(question, Lot([found.mark])) <= 60:
                        yield chance, question, found

    def test_the_least_mark_suffices(self):
        for _, question, found in self.cases(45, 40):
            self.assertTrue(suffices(question, Lot([found.mark])))

    def test_with_two_values_made_one_it_does_not(self):
        for chance, question, found in self.cases(46, 30):
            if len(found) < 2:
                continue
            rows = found.mark.machine.rows
            groups = list(range(len(rows)))
            waiting = [tuple(chance.sample(groups, 2))]
            while waiting:
                one, other = waiting.pop()
                if groups[one] != groups[other]:
                    gone = groups[other]
                    groups = [groups[one] if group == gone else group for group in groups]
                    for a, b in itertools.combinations(range(len(rows)), 2):
                        if groups[a] == groups[b]:
                            waiting += list(zip(rows[a], rows[b]))
            numbers = sorted(set(groups))
            merged = [[numbers.index(groups[to]) for to in rows[number]] for number in numbers]
            start = numbers.index(groups[0])
            mark = Mark(showing(Machine(question.deeds, merged, ["x"] * len(merged), start)), found.rule)
            self.assertFalse(suffices(question, Lot([mark])), (question.kind, found.rule))

    def test_with_more_values_it_does(self):
        for chance, question, found in self.cases(47, 20, 5):
            more = found.mark.machine * showing(some_table(chance, question.deeds, 2, None))
            lot = Lot([Mark(more, found.rule)])
            if count_places(question, lot) <= 60:
                self.assertTrue(suffices(question, lot))

    def test_no_mark_with_fewer_values_does(self):
        seen = 0
        for _, question, found in self.cases(48, 20, 4):
            deeds = question.deeds
            for many in range(1, min(len(found), 3 if len(deeds) == 3 else 4)):
                for flat in itertools.product(range(many), repeat=many * len(deeds)):
                    rows = [flat[k * len(deeds):(k + 1) * len(deeds)] for k in range(many)]
                    mark = Mark(Machine(deeds, rows, [f"v{k}" for k in range(many)]), found.rule)
                    self.assertFalse(suffices(question, Lot([mark])))
                    seen += 1
        self.assertGreater(seen, 1000)

    def test_no_small_mark_does_where_there_is_none(self):
        chance = random.Random(49)
        seen = 0
        while seen < 60:
            question = some_question(chance, AB, chance.choice(KINDS[1:]))
            mark = some_mark(chance, AB, 4)
            if isinstance(least(question, "kept"), Never) and mark.rule == "kept":
                self.assertFalse(suffices(question, Lot([mark])))
                seen += 1


class Answers(ErrorCase):
    def test_due_and_standing_at_every_look(self):
        chance = random.Random(50)
        for _, question, found in Suffices.cases(self, 51, 30, 60):
            for _ in range(3):
                history = some_history(chance, question, Timing(), 5)
                told = chance.randrange(len(question.core))
                due, standing = question.due(history, told), question.standing(history, told)
                values, value = [], 0
                for stretch in history:
                    values.append(found.mark.machine.after(stretch, value))
                    value = 0 if found.rule == "cleared" else values[-1]
                self.assert_told(found, values, due, standing, told)

    def assert_told(self, found, values, due, standing, told):
        """From the values that were read, `due` and `standing` tell the answers and states at the looks."""
        kind, rule = found.question.kind, found.rule
        for k, now in enumerate(values):
            if rule == "cleared" and kind in LATE and k == 0:
                continue
            before, state = None, None
            if rule == "kept" and kind == "stretch":
                before = values[k - 1] if k else 0
            elif rule == "kept" and kind in LATE:
                before = values[0]
            if rule == "cleared" and kind != "stretch":
                state = standing[k - 1] if k else 0
            elif rule == "kept" and kind == "taken":
                state = told
            self.assertEqual(found.due(before, now, state), due[k])
            self.assertEqual(found.standing(before, now, state), standing[k])
            if state in (None, 0):
                self.assertEqual((found.due(before, now), found.standing(before, now)), (due[k], standing[k]))

    def test_watchers_that_read_it(self):
        chance = random.Random(52)
        for _, question, found in Suffices.cases(self, 53, 12):
            told = chance.randrange(len(question.core))
            watcher = Watcher(question, Lot([found.mark]), state=told)
            history = some_history(chance, question, Timing(), 5)
            for shown, answer in zip(Lot([found.mark]).readings(history), question.due(history, told)):
                self.assertEqual(watcher.look(shown), answer)

    def test_values_and_states_that_are_none(self):
        marks = {(kind, rule): least(some_permuting_question(random.Random(7), kind, 3), rule)
                 for kind, rule in itertools.product(KINDS, RULES)}
        for (kind, rule), found in marks.items():
            many, states = len(found), len(found.question.core)
            self.assertGreater(states, 1)
            is_before = rule == "kept" and kind != "carried"
            is_state = kind == "taken" if rule == "kept" else kind != "stretch"
            for call in (found.due, found.standing):
                for value in [-1, many, True, None, "0", (0,), [0], 1.0]:
                    self.assert_error(BadValue, (value,), call, 0, value, value)
                    if is_before:
                        self.assert_error(BadValue, (value,), call, value, -2, value)
                    else:
                        call(value, 0, 0)
                for state in [-1, states, True, None, "0", (0,), [0], 1.0]:
                    if is_state:
                        self.assert_error(BadState, (state,), call, 0, 0, state)
                    else:
                        self.assertEqual(call(0, 0, state), call(0, 0))


class Nevers(ErrorCase):
    def test_fooled(self):
        chance = random.Random(54)
        seen = {kind: 0 for kind in KINDS[1:]}
        while min(seen.values()) < 25:
            question = some_question(chance, AB, chance.choice(KINDS[1:]))
            never = least(question, "kept")
            if isinstance(never, Never):
                mark = Mark(some_table(chance, AB, chance.choice([1, 2, 5, 20, 60]), chance.choice([None, ("x",)])),
                            "kept")
                found = never.fooled(mark=mark)
                self.assertTrue(found.shows(question, Lot([mark])))
                self.assertEqual(found.state is None, question.kind != "taken")
                seen[question.kind] += 1

    def test_sixty_values(self):
        never = least(Question(BACK, "stretch"), "kept")
        mark = Mark(ring(60, [f"v{k}" for k in range(60)], ("f", "r")), "kept")
        self.assertTrue(never.fooled(mark).shows(never.question, Lot([mark])))
        self.assertEqual(len(never.fooled(mark).second.whole) % 60, len(never.fooled(mark).first.whole) % 60)

    def test_errors(self):
        never = least(Question(BACK, "joined"), "kept")
        for rule in RULES:
            self.assert_error(OtherDeeds, (("f", "r"), ("r", "f")), never.fooled, Mark(ring(2, None, ("r", "f")), rule))
        self.assert_error(BadRule, ("cleared",), never.fooled, Mark(BACK, "cleared"))

    def test_repeating_the_row_never_leads_back(self):
        chance = random.Random(55)
        for _ in range(100):
            question = some_question(chance, AB, chance.choice(KINDS[1:]))
            never = least(question, "kept")
            if isinstance(never, Never):
                for n in range(1, 8):
                    states = act(question.core, never.row * n)
                    self.assertNotEqual(states if question.kind == "taken" else states[0],
                                        act(question.core, ()) if question.kind == "taken" else 0)


class Errors(ErrorCase):
    def test_rules(self):
        for rule in [*ODD_VALUES, "Kept", "clear", "kept ", "joined"]:
            self.assert_error(BadRule, (rule,), least, Question(BACK), rule, Timing(None, ("z",)))

    def test_too_many_images(self):
        """Rows lead the set of all states of this machine to very many sets."""
        rows = [[(k + 1) % 12, 0 if k == 1 else k] for k in range(12)]
        big = Machine(AB, rows, ["yes"] + ["no"] * 11)
        for kind in ("stretch", "joined"):
            self.assert_error(TooMany, ("images", 301, 300), least, Question(big, kind), "kept")
        self.assertEqual(len(least(Question(big), "kept")), 12)
        self.assertEqual(least(Question(big, "taken"), "kept").row, ("b",))
        self.assert_error(TooMany, ("states", 61, 60), least, Question(big), "cleared")

    def test_about_three_hundred_images(self):
        chance = random.Random(56)
        seen = set()
        while not (min(seen, default=999) <= 300 < max(seen, default=0)) or len(seen) < 25:
            states = chance.randint(8, 11)
            question = Question(some_table(chance, ("a", "b", "c"), states, None), chance.choice(["stretch", "joined"]))
            many = len(images(question.core))
            if many >= 150:
                seen.add(many)
                if many > 300:
                    self.assert_error(TooMany, ("images", 301, 300), least, question, "kept")
                else:
                    self.assertIsInstance(least(question, "kept"), Never)

    def test_just_three_hundred_images(self):
        """The seeds were searched for."""
        for seed, many in [(2000092, 300), (7000802, 300), (2000191, 301), (2000381, 301)]:
            machine = some_table(random.Random(seed), ("a", "b", "c"), 10, None)
            for kind in ("stretch", "joined"):
                question = Question(machine, kind)
                self.assertEqual(len(images(question.core)), many)
                if many > 300:
                    self.assert_error(TooMany, ("images", 301, 300), least, question, "kept")
                else:
                    self.assertIsInstance(least(question, "kept"), Never)

    def test_too_many_values(self):
        swaps = Machine(AB, [[1, 1], [0, 2], [2, 3], [3, 4], [4, 0]], [f"t{k}" for k in range(5)])
        for kind in KINDS:
            self.assertEqual(len(acts(swaps)), 120)
            for rule in RULES:
                if (kind, rule) in [("carried", "kept"), ("stretch", "cleared")]:
                    self.assertEqual(len(least(Question(swaps, kind), rule)), 5)
                else:
                    self.assert_error(TooMany, ("states", 61, 60), least, Question(swaps, kind), rule)

    def test_just_sixty_values(self):
        for many in (59, 60):
            question = Question(ring(many, ["yes"] + ["no"] * (many - 1), X), "joined")
            for rule in RULES:
                self.assertEqual(len(least(question, rule)), many)
        long = Question.of(Ends(("a",) * 12), AB)
        self.assertEqual(len(least(long, "cleared")), 25)
        recent = Question.of(Recent(3), ("a", "b", "c"))
        self.assertEqual((len(recent.core), len(least(recent, "cleared"))), (40, 40))

    def test_about_sixty_values(self):
        chance = random.Random(58)
        seen = {}
        while len(seen) < 12 or not {60, 61} <= set(seen):
            question = Question(some_table(chance, AB, chance.choice([4, 5]), None), chance.choice(["carried", "taken"]))
            rows, _ = wanted(question, "cleared")
            if 50 <= len(rows) <= 70:
                seen[len(rows)] = True
                if len(rows) > 60:
                    self.assert_error(TooMany, ("states", 61, 60), least, question, "cleared")
                else:
                    self.assertEqual(len(least(question, "cleared")), len(rows))

    def test_machines_of_sixty_states(self):
        chance = random.Random(57)
        begin = time.time()
        for kind, rule in itertools.product(KINDS, RULES):
            for machine in (some_table(chance, SIX, 60, None), ring(60, [f"v{k}" for k in range(60)], SIX),
                            some_permuting_question(chance, kind, 60, SIX).machine):
                try:
                    least(Question(machine, kind), rule)
                except TooMany as error:
                    self.assertIn(error.what, ("images", "states"))
        self.assertLess(time.time() - begin, 8)


if __name__ == "__main__":
    unittest.main()
