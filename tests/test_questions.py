"""Questions: promises [8], [10], [18] to [21] and [27]."""

import itertools
import random
import unittest

from betweenlooks.errors import BadDeeds, BadKind, BadState, NoDeed, OtherDeeds, OtherKind, TooMany
from betweenlooks.facts import Count, Done, Not, Recent, Retold, Scattered, Turn
from betweenlooks.histories import History, histories
from betweenlooks.machines import Machine
from betweenlooks.questions import Question
from helpers import BACK, ODD_VALUES, ErrorCase, doubled, led, relabelled, ring, some_machine
from reckoning import class_names, renamed, some_fact

KINDS = ("carried", "stretch", "joined", "taken")
HISTORY = History((("a", "b"), (), ("a",)))
NOT_INDEXES = [None, True, False, "0", 0.0, -1, (0,), [0]]


def some_history(chance, deeds, looks, longest=3):
    return History([chance.choices(deeds, k=chance.randint(0, longest)) for _ in range(looks)])


def due_plainly(machine, kind, history, row_to_state=()):
    """The answers by the definition; for a taken question the state is told by a row that leads to it."""
    answers = []
    for k in range(len(history)):
        rows = history.stretches[:k + 1]
        if kind == "stretch":
            rows = rows[-1:]
        elif kind == "joined":
            rows = rows[1:]
        elif kind == "taken":
            rows = (row_to_state,) + rows[1:]
        answers.append(machine.told([deed for row in rows for deed in row]))
    return answers


class Made(ErrorCase):
    def test_attributes(self):
        chance = random.Random(19)
        for _ in range(40):
            plain = some_machine(chance, chance.randint(1, 8), 2)
            machine = doubled(plain, chance)
            for kind in KINDS:
                question = Question(machine, kind)
                self.assertEqual(question.machine, machine)
                self.assertEqual(question.kind, kind)
                self.assertEqual(question.core, machine.least())
                self.assertEqual(question.core, plain.least())
                self.assertEqual(question.deeds, machine.deeds)
        self.assertEqual(Question(BACK).kind, "carried")
        self.assertEqual(Question(machine=BACK, kind="taken").kind, "taken")

    def test_wrong_kinds(self):
        for odd in ODD_VALUES + ["Carried", "carried ", "kept", ("carried",)]:
            self.assert_error(BadKind, (odd,), Question, BACK, odd)
            self.assert_error(BadKind, (odd,), Question.of, Done(("a",)), ("a",), odd)

    def test_of_a_fact(self):
        fact = Scattered(("f", "r"))
        for kind in KINDS:
            question = Question.of(fact, ["f", "r"], kind)
            self.assertEqual(question, Question(BACK, kind))
            self.assertEqual(question.machine, BACK)
            self.assertIs(question.__class__, Question)
        self.assertEqual(Question.of(fact=fact, deeds=("f", "r")), Question(BACK, "carried"))

    def test_the_errors_of_machines_come_first(self):
        self.assert_error(BadDeeds, (0,), Question.of, Done(("a",)), (), "kind")
        self.assert_error(TooMany, ("deeds", 7, 6), Question.of, Done(("a",)), tuple("abcdefg"), "kind")
        self.assert_error(TooMany, ("states", 61, 60), Question.of, Recent(9), ("a", "b"), None)
        self.assert_error(TooMany, ("characters", 61, 60), Question.of, Not(Recent(31)), ("a",), None)

    def test_equal_exactly_if_kinds_and_cores_are(self):
        chance = random.Random(191)
        machines = [BACK, relabelled(BACK, [2, 0, 1]), doubled(BACK, chance), doubled(BACK, chance),
                    Machine(("f", "r"), BACK.rows, ["no", "no", "no"]), Machine(("r", "f"), BACK.rows, BACK.tells),
                    Machine(("f", "r"), BACK.rows, BACK.tells, 1)]
        for (i, a), (j, b) in itertools.product(enumerate(machines), enumerate(machines)):
            for one, two in itertools.product(KINDS, KINDS):
                same = one == two and (i == j or max(i, j) < 4)
                self.assertEqual(Question(a, one) == Question(b, two), same)
                self.assertEqual(Question(a, one) != Question(b, two), not same)
        for other in [None, BACK, "carried", ("carried", BACK), 0]:
            self.assertFalse(Question(BACK) == other)


class Due(ErrorCase):
    def test_the_examples_of_the_document(self):
        wanted = {"carried": "110", "stretch": "101", "joined": "001"}
        for kind, answers in wanted.items():
            question = Question.of(Turn(("a",), 2), ("a", "b"), kind)
            self.assertEqual(question.due(HISTORY), list(answers))
            self.assertEqual(question.standing(HISTORY), [int(answer) for answer in answers])
        question = Question.of(Turn(("a",), 2), ("a", "b"), "taken")
        self.assertEqual(question.due(HISTORY, 1), ["1", "1", "0"])
        self.assertEqual(question.due(HISTORY, state=0), ["0", "0", "1"])
        self.assertEqual(question.due(HISTORY), ["0", "0", "1"])
        self.assertEqual(question.standing(history=HISTORY, state=1), [1, 1, 0])

    def test_by_the_definition(self):
        chance = random.Random(20)
        for _ in range(60):
            machine = doubled(some_machine(chance, chance.randint(1, 6), chance.randint(1, 3)), chance)
            core = machine.least()
            for looks in range(7):
                history = some_history(chance, machine.deeds, looks)
                for kind in KINDS[:3]:
                    question = Question(machine, kind)
                    for meaningless in (0, None, -1, "x", 10 ** 30):
                        self.assertEqual(question.due(history, meaningless), due_plainly(machine, kind, history))
                    standing = question.standing(history, "x")
                    self.assertEqual(len(standing), looks)
                    self.assertEqual([core.tells[state] for state in standing], question.due(history))
                question = Question(machine, "taken")
                for state, row in core.reached():
                    self.assertEqual(question.due(history, state), due_plainly(machine, "taken", history, row))
                    self.assertEqual(question.standing(history, state)[:1], [state][:looks])

    def test_standing_by_the_core(self):
        chance = random.Random(201)
        for _ in range(40):
            machine = some_machine(chance, 6, 2)
            history = some_history(chance, machine.deeds, 6)
            core, s = machine.least(), history.stretches
            whole = [[deed for row in s[:k + 1] for deed in row] for k in range(6)]
            later = [[deed for row in s[1:k + 1] for deed in row] for k in range(6)]
            self.assertEqual(Question(machine).standing(history), [led(core, 0, row) for row in whole])
            self.assertEqual(Question(machine, "stretch").standing(history), [led(core, 0, row) for row in s])
            self.assertEqual(Question(machine, "joined").standing(history), [led(core, 0, row) for row in later])
            for state in range(len(core)):
                self.assertEqual(Question(machine, "taken").standing(history, state),
                                 [led(core, state, row) for row in later])

    def test_wrong_told_states(self):
        taken = Question(doubled(BACK, random.Random(3)), "taken")
        for call in (taken.due, taken.standing):
            for wrong in NOT_INDEXES + [3, 7, 10 ** 30]:
                self.assert_error(BadState, (wrong,), call, History.read("f | r |"), wrong)
                self.assert_error(BadState, (wrong,), call, History(), wrong)
                self.assert_error(BadState, (wrong,), call, History([()]), wrong)
            self.assertEqual(call(History(), 2), [])

    def test_foreign_deeds_come_first(self):
        for kind in KINDS:
            question = Question(BACK, kind)
            for call in (question.due, question.standing):
                self.assert_error(NoDeed, (0,), call, History.read("x |"), 9)
                self.assert_error(NoDeed, (3,), call, History.read("f | r f x | y |"), 9)
                self.assert_error(NoDeed, (2,), call, History.read("| f r | | x f | f |"))

    def test_answers_are_new_lists(self):
        question = Question(BACK)
        history = History.read("f | r |")
        question.due(history).append("x")
        question.standing(history).append(7)
        self.assertEqual([question.due(history), question.standing(history)], [["no", "yes"], [1, 2]])

    def test_deeds_go_along_with_their_names(self):
        chance = random.Random(202)
        for _ in range(40):
            fact = some_fact(chance, ["a", "b"], 3)
            if {"Latest", "Recent"} & set(class_names(fact)):
                continue
            for names in [{"a": "b", "b": "a"}, {"a": "c", "b": "d"}]:
                for kind in KINDS:
                    one = Question.of(fact, ("a", "b"), kind)
                    other = Question.of(renamed(fact, names), [names[deed] for deed in ("a", "b")], kind)
                    history = some_history(chance, ("a", "b"), 4)
                    same = History([[names[deed] for deed in row] for row in history])
                    self.assertEqual(one.standing(history), other.standing(same))
                    self.assertEqual(one.due(history), other.due(same))


class Parting(ErrorCase):
    def first_differing(self, one, other, looks, most):
        """The fewest looks, and for them the fewest deeds, of a history at whose last look the answers differ."""
        for many in range(1, looks + 1):
            for history in histories(one.deeds, many, most):
                if one.due(history)[-1] != other.due(history)[-1]:
                    return many, len(history.whole)
        return None

    def assert_parting(self, one, other, looks, most):
        found = one.parting(other)
        wanted = self.first_differing(one, other, looks, most)
        if found is None:
            self.assertIsNone(wanted)
            return 0
        self.assertNotEqual(one.due(found)[-1], other.due(found)[-1])
        if wanted is not None:
            self.assertEqual((len(found), len(found.whole)), wanted)
        else:
            self.assertGreater((len(found), len(found.whole)), (looks, 0))
        return 1

    def test_the_example(self):
        one = Question.of(Done(("x",)), ("x",))
        other = Question.of(Done(("x",)), ("x",), "stretch")
        self.assertEqual(one.parting(other), History.read("x | |"))
        self.assertEqual(other.parting(other=one).text, "x | |")

    def test_by_hand(self):
        done, twice = Done(("x",)), Count(("x",), 2)
        joined = Question.of(done, ("x",), "joined")
        self.assertEqual(joined.parting(Question.of(done, ("x",))).text, "x |")
        self.assertEqual(joined.parting(Question.of(~~done, ("x",), "joined")), None)
        self.assertEqual(joined.parting(Question.of(Retold(twice, {"0": "no", "1": "yes", "2": "no"}), ("x",),
                                                    "joined")).text, "| x x |")
        self.assertEqual(Question.of(done, ("x",)).parting(Question.of(~done, ("x",))).text, "|")
        still = Question.of(Retold(done, {"yes": "no"}), ("x",))
        for kind in KINDS[:3]:
            self.assertIsNone(still.parting(Question(still.machine, kind)))

    def test_by_the_definition(self):
        chance = random.Random(21)
        seen = {}
        for _ in range(60):
            states = chance.randint(1, 4)
            a = some_machine(chance, states, 2)
            b = doubled(a, chance) if chance.random() < 0.5 else Machine(
                a.deeds, a.rows, [*a.tells[:-1], chance.choice(("no", "yes"))], a.start)
            for one, two in itertools.product(KINDS[:3], KINDS[:3]):
                pair = (one, two)
                seen[pair] = seen.get(pair, 0) + self.assert_parting(Question(a, one), Question(b, two), 3, 4)
        self.assertGreater(len([pair for pair in seen if seen[pair]]), 8)

    def test_fewest_looks_ahead_of_fewest_deeds(self):
        ten = Question(Turn(("x",), 10).machine_for(("x",)).telling({**{str(k): "no" for k in range(9)}, "9": "yes"}))
        other = Question(ring(1, ["no"], ("x",)))
        self.assertEqual(ten.parting(other).text, "x " * 9 + "|")
        joined = Question(ten.machine, "joined")
        self.assertEqual(joined.parting(other).text, "| " + "x " * 9 + "|")

    def test_two_looks_are_better_than_many_deeds(self):
        """What needs three looks with stretches of one deed needs two with more deeds: fewer looks are better."""
        one = Question(Scattered(("a", "b")).machine_for(("a", "b")))
        other = Question(one.machine, "stretch")
        found = one.parting(other)
        self.assertEqual((len(found), len(found.whole)), (2, 2))

    def test_sixty_states_are_taken(self):
        one, other = Question(ring(60, ["no"] * 59 + ["yes"])), Question(ring(59, ["no"] * 58 + ["yes"]))
        self.assertEqual(len(one.parting(other).whole), 58)
        same = Question(ring(60, (["no"] * 29 + ["yes"]) * 2))
        self.assertIsNone(same.parting(Question(ring(30, ["no"] * 29 + ["yes"]))))
        self.assertIsNone(Question(ring(60)).parting(Question(ring(59), "joined")))

    def test_errors(self):
        swapped = Machine(("r", "f"), BACK.rows, BACK.tells)
        for one, other in itertools.product(KINDS, KINDS):
            self.assert_error(OtherDeeds, (("f", "r"), ("r", "f")), Question(BACK, one).parting,
                              Question(swapped, other))
            if "taken" in (one, other):
                self.assert_error(BadKind, ("taken",), Question(BACK, one).parting, Question(BACK, other))


class Products(ErrorCase):
    def test_both_at_once(self):
        chance = random.Random(211)
        for _ in range(30):
            a = some_machine(chance, chance.randint(1, 4), 2)
            b = Machine(a.deeds, *some_table(chance, 4))
            for kind in KINDS:
                one, other = Question(a, kind), Question(b, kind)
                both = one * other
                self.assertEqual(both.kind, kind)
                self.assertEqual(both.machine, a * b)
                if kind == "taken":
                    continue
                history = some_history(chance, a.deeds, 4)
                self.assertEqual(both.due(history),
                                 [x + "/" + y for x, y in zip(one.due(history), other.due(history))])

    def test_errors_in_their_order(self):
        sixty, more = ring(60, deeds=("x",)), ring(59, deeds=("x",))
        long = Question(ring(1, ["y" * 40], ("x",)))
        for one, other in itertools.product(KINDS, KINDS):
            foreign = Question(ring(59, None, ("y",)), other)
            self.assert_error(OtherDeeds, (("x",), ("y",)), lambda: Question(sixty, one) * foreign)
            if one != other:
                self.assert_error(OtherKind, (one, other), lambda: Question(sixty, one) * Question(more, other))
            else:
                self.assert_error(TooMany, ("states", 61, 60), lambda: Question(sixty, one) * Question(more, other))
        self.assert_error(TooMany, ("characters", 61, 60), lambda: long * long)
        with self.assertRaises(TypeError):
            Question(BACK) * BACK


def some_table(chance, many):
    """The rows and tells of a machine with two deeds."""
    rows = [[chance.randrange(many), chance.randrange(many)] for _ in range(many)]
    return rows, [chance.choice("xyz") for _ in range(many)]


if __name__ == "__main__":
    unittest.main()
