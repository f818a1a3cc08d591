"""Onto: promises [43] and [53]."""

import itertools
import random
import unittest

from betweenlooks.clashes import clash
from betweenlooks.errors import Clashes, NoMark, OtherDeeds, TooMany
from betweenlooks.least import Least, least
from betweenlooks.machines import Machine
from betweenlooks.marks import Lot, Mark
from betweenlooks.onto import onto
from betweenlooks.questions import Question
from helpers import BACK, ErrorCase, relabelled, ring
from lookers import KINDS, RULES, count_places, showing, some_question, some_table
from test_least import ODD, some_asked

AB, X = ("a", "b"), ("x",)


def reach(machine, begin):
    """All states that rows lead to from one."""
    found, waiting = set(), [begin]
    while waiting:
        state = waiting.pop()
        if state not in found:
            found.add(state)
            waiting += machine.rows[state]
    return found


def counting(machine, question, rule):
    """The values that count, by [43]."""
    reached = reach(machine, machine.start)
    if rule == "cleared" or question.kind == "carried":
        return reached
    return {value for value in reached if all(value in reach(machine, other) for other in reach(machine, value))}


def with_more(chance, machine):
    """A machine with more values: some that nothing reaches, some that lead to the others, and other numbers."""
    many = len(machine)
    rows = [list(row) for row in machine.rows]
    rows += [[chance.randrange(many + 3) for _ in machine.deeds] for _ in range(3)]
    order = chance.sample(range(many + 3), many + 3)
    return showing(relabelled(Machine(machine.deeds, rows, ["x"] * (many + 3), machine.start), order))


def with_lead_in(chance, machine):
    """A machine whose first value is left for good by the first deed."""
    many = len(machine)
    rows = [list(row) for row in machine.rows] + [[chance.randrange(many) for _ in machine.deeds]]
    return showing(Machine(machine.deeds, rows, ["x"] * (many + 1), many))


class Partners(ErrorCase):
    def assert_partners(self, question, mark):
        partners = onto(question, mark)
        aim = least(question, mark.rule).mark.machine
        self.assertEqual(set(partners), counting(mark.machine, question, mark.rule))
        for value, partner in partners.items():
            self.assertIn(partner, range(len(aim)))
            for to, other in zip(mark.machine.rows[value], aim.rows[partner]):
                self.assertEqual(partners[to], other)
        if mark.rule == "cleared" or question.kind == "carried":
            self.assertEqual(partners[mark.machine.start], 0)
        return partners

    def test_marks_that_suffice(self):
        chance = random.Random(53)
        seen = {}
        for kind, rule in itertools.product(KINDS, RULES):
            for _ in range(80):
                question = some_asked(chance, kind)
                try:
                    found = least(question, rule)
                except TooMany:
                    continue
                if not isinstance(found, Least) or len(found) > 20:
                    continue
                machine = found.mark.machine
                if chance.random() < 0.5:
                    machine *= showing(some_table(chance, question.deeds, 2, None))
                machine = with_more(chance, machine)
                if chance.random() < 0.4:
                    machine = with_lead_in(chance, machine)
                mark = Mark(machine, rule)
                lot = Lot([mark])
                if count_places(question, lot) > 60:
                    self.assert_error(TooMany, ("places", 61, 60), onto, question, mark)
                elif clash(question, lot) is None:
                    partners = self.assert_partners(question, mark)
                    if kind == "carried" or rule == "cleared":
                        self.assertEqual(set(partners.values()), set(range(len(found))))
                    seen[(kind, rule)] = seen.get((kind, rule), 0) + 1
        self.assertEqual(len(seen), 8)
        self.assertGreater(min(seen.values()), 8)

    def test_any_marks(self):
        chance = random.Random(54)
        seen = {}
        for _ in range(600):
            question = some_question(chance, X if chance.random() < 0.3 else AB)
            mark = Mark(showing(some_table(chance, question.deeds, chance.randint(1, 5), None)), chance.choice(RULES))
            found = clash(question, Lot([mark]))
            seen[found is None] = seen.get(found is None, 0) + 1
            if found is None:
                self.assert_partners(question, mark)
            else:
                with self.assertRaises(Clashes) as caught:
                    onto(mark=mark, question=question)
                self.assertTrue(caught.exception.clash.shows(question, Lot([mark])))
                self.assertEqual(caught.exception.clash.looks, found.looks)
        self.assertGreater(min(seen.values()), 40)

    def test_several_rings_of_lasting_values(self):
        """Behind its first value the mark comes into one of two copies of the least mark, each with other numbers."""
        for kind in ("stretch", "joined"):
            question = Question(ODD, kind)
            rows = least(question, "kept").mark.machine.rows
            lead = [[1 + 4, 1]]
            both = lead + [[to + 1 for to in row] for row in rows] + [[to + 5 for to in row] for row in rows]
            mark = Mark(showing(Machine(AB, both, ["x"] * 9)), "kept")
            if clash(question, Lot([mark])) is None:
                partners = self.assert_partners(question, mark)
                self.assertEqual(set(partners), set(range(1, 9)))

    def test_the_least_mark_itself(self):
        for kind, rule in itertools.product(KINDS, RULES):
            question = Question(ring(3, ["no", "yes", "x"], AB), kind)
            found = least(question, rule)
            self.assertEqual(onto(question, found.mark), {k: k for k in range(len(found))})


class Errors(ErrorCase):
    def test_their_order(self):
        big = Question(ring(60, [f"x{k}" for k in range(60)], X), "taken")
        hiding = Machine(X, [[1], [0]], ["t", "t"])
        for rule in RULES:
            foreign = Mark(Machine(("y",), [[1], [0]], ["t", "t"]), rule)
            self.assert_error(OtherDeeds, (X, ("y",)), onto, big, foreign)
            self.assert_error(NoMark, (), onto, big, Mark(hiding, rule))
            self.assert_error(TooMany, ("places", 61, 60), onto, big, Mark(ring(2, ["v0", "v1"], X), rule))

    def test_hidden_values_that_nothing_reaches_do_not_matter(self):
        question = Question(Machine(X, [[0]], ["t"]))
        mark = Mark(Machine(X, [[0], [1]], ["t", "t"]), "kept")
        self.assertEqual(onto(question, mark), {0: 0})

    def test_clashes_also_where_there_is_no_least_mark(self):
        for kind in KINDS[1:]:
            question = Question(BACK, kind)
            mark = Mark(ring(5, [f"v{k}" for k in range(5)], ("f", "r")), "kept")
            with self.assertRaises(Clashes) as caught:
                onto(question, mark)
            self.assertTrue(caught.exception.clash.shows(question, Lot([mark])))


if __name__ == "__main__":
    unittest.main()
