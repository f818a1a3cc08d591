"""The machines of facts: promise [17], and what [8] says of least machines."""

import random
import unittest

from betweenlooks.errors import BadDeeds, TooMany
from betweenlooks.facts import (
    Ahead, And, Both, Changes, Count, Done, Ends, Has, Latest, Level, Not, Once, Or, Recent, Retold, Scattered, Since,
    Turn, Xor,
)
from betweenlooks.machines import Machine
from helpers import BACK, ODD_VALUES, ErrorCase, rows_up_to
from reckoning import class_names, reckon, renamed, some_fact, some_simple

STATES = ("states", 61, 60)
LONG = ("characters", 61, 60)
X = ("x",)
SIXTY = Turn(X, 59) * Done(X)
MORE = Turn(X, 59) * Count(X, 2)


class Machines(ErrorCase):
    def assert_machine(self, fact, deeds, most):
        """It tells what the fact tells after all rows up to a length, and is the least machine."""
        machine = fact.machine_for(deeds)
        self.assertEqual(machine.deeds, tuple(deeds))
        self.assertEqual(machine.start, 0)
        for row in rows_up_to(deeds, most):
            self.assertEqual(machine.told(row), reckon(fact, row), row)
        self.assert_least(machine)

    def assert_least(self, machine):
        self.assertEqual([state for state, _ in machine.reached()], list(range(len(machine))))
        for a in range(len(machine)):
            for b in range(a):
                self.assertIsNotNone(machine.apart(a, b))

    def test_the_example_of_the_document(self):
        self.assertEqual(Scattered(("f", "r")).machine_for(("f", "r")), BACK)

    def test_machines_by_hand(self):
        self.assertEqual(Done(("a",)).machine_for(("a", "b")), Machine(("a", "b"), [[1, 0], [1, 1]], ["no", "yes"]))
        self.assertEqual(Done(("a",)).machine_for(("b", "a")), Machine(("b", "a"), [[0, 1], [1, 1]], ["no", "yes"]))
        self.assertEqual(Done(("a",)).machine_for(("b",)), Machine(("b",), [[0]], ["no"]))
        self.assertEqual(Ends(("a", "b")).machine_for(("a", "b")),
                         Machine(("a", "b"), [[1, 0], [1, 2], [1, 0]], ["no", "no", "yes"]))
        self.assertEqual(Turn(("a",), 1).machine_for(("a",)), Machine(("a",), [[0]], ["0"]))
        self.assertEqual(Retold(Latest(("a", "b")), {"0": "b"}).machine_for(("b", "a")),
                         Machine(("b", "a"), [[0, 1], [0, 1]], ["b", "a"]))
        self.assertEqual(Since(("s",), Count(("a",), 1)).machine_for(["a", "s"]),
                         Machine(("a", "s"), [[1, 0], [1, 0]], ["0", "1"]))

    def test_simple_facts(self):
        chance = random.Random(171)
        for _ in range(150):
            deeds = chance.sample(["a", "b", "c", "z"], chance.randint(1, 4))
            self.assert_machine(some_simple(chance, ["a", "b", "c"]), deeds, 4)

    def test_facts_made_of_facts(self):
        chance = random.Random(172)
        seen = 0
        for _ in range(250):
            deeds = chance.sample(["a", "b", "z"], chance.randint(1, 3))
            fact = some_fact(chance, ["a", "b"], 3)
            try:
                fact.machine_for(deeds)
            except TooMany:
                continue
            seen += 1
            self.assert_machine(fact, deeds, 4)
        self.assertGreater(seen, 200)

    def test_rows_as_long_as_the_states_ask_for(self):
        chance = random.Random(173)
        for fact in [SIXTY, Level(X, ("y",), 59), Changes(Turn(("x", "y"), 3), 7) * Count(("y",), 2),
                     Since(("y",), Changes(Latest(X), 2)), Recent(4), Once(Turn(X, 20) * Turn(("y",), 2), "19/1")]:
            machine = fact.machine_for(("x", "y"))
            self.assert_least(machine)
            for _ in range(20):
                row = chance.choices("xy", weights=(4, 1), k=90)
                self.assertEqual(machine.told(row), reckon(fact, row))

    def test_deeds_go_along_with_their_names(self):
        chance = random.Random(174)
        for _ in range(100):
            fact = some_fact(chance, ["a", "b"], 3)
            if {"Latest", "Recent"} & set(class_names(fact)):
                continue
            for new in (("c", "d"), ("b", "a")):
                other = renamed(fact, {"a": new[0], "b": new[1]})
                mine, theirs = fact.machine_for(("a", "b")), other.machine_for(new)
                self.assertEqual((mine.rows, mine.tells), (theirs.rows, theirs.tells))
        for fact in [Latest(("a", "b")), Recent(3), Since(("b",), Latest(("b", "a"))), Recent(1) * Recent(2)]:
            mine = fact.machine_for(("a", "b"))
            theirs = renamed(fact, {"a": "c", "b": "d"}).machine_for(("c", "d"))
            self.assertEqual(mine.rows, theirs.rows)
            self.assertEqual([tell.replace("a", "c").replace("b", "d") for tell in mine.tells], list(theirs.tells))

    def test_a_hundred_levels(self):
        fact = Turn(("a",), 3)
        for k in range(99):
            fact = [Since(("c",), fact), Or(fact, Turn(("a",), 3)), Changes(fact, 3), Retold(fact, {"1": "yes"})][k % 4]
        self.assert_machine(fact, ("a", "c"), 3)
        fact = Done(("a",))
        for k in range(98):
            fact = And(Not(Done(("b",))), fact) if k % 2 else fact ^ Done(("a", "c"))
        self.assert_machine(fact, ("a", "b"), 4)


class Errors(ErrorCase):
    def test_deeds(self):
        for fact in [Done(("a",)), Not(Done(("a",))), Once(MORE, "yes"), Recent(59)]:
            make = fact.machine_for
            self.assert_error(BadDeeds, (0,), make, ())
            self.assert_error(BadDeeds, (2,), make, ("a", "b", "a"))
            self.assert_error(BadDeeds, (7,), make, tuple("abcdefgA"))
            self.assert_error(TooMany, ("deeds", 7, 6), make, tuple("abcdefg"))
            for odd in ODD_VALUES:
                self.assert_error(BadDeeds, (1,), make, ["a", odd])
        Done(("a",)).machine_for(tuple("abcdef"))

    def test_sixty_states_and_one_more(self):
        self.assertEqual(len(SIXTY.machine_for(X)), 60)
        self.assertEqual(len(Count(X, 59).machine_for(X)), 60)
        self.assertEqual(len(Level(X, ("y",), 59).machine_for(("x", "y"))), 60)
        self.assert_error(TooMany, STATES, MORE.machine_for, X)
        self.assert_error(TooMany, STATES, Recent(5).machine_for, ("x", "y"))
        self.assertEqual(len(Recent(4).machine_for(("x", "y"))), 31)
        self.assertEqual(len(Recent(2).machine_for(tuple("abcdef"))), 43)
        self.assert_error(TooMany, STATES, Recent(3).machine_for, tuple("abcdef"))
        self.assert_error(TooMany, STATES, Recent(59).machine_for, tuple("abcdef"))
        self.assert_error(TooMany, STATES, (Turn(X, 8) * Turn(("y",), 8)).machine_for, ("x", "y"))
        self.assertEqual(len((Turn(X, 6) * Turn(("y",), 10)).machine_for(("x", "y"))), 60)

    def test_states_of_the_facts_it_is_made_of(self):
        for fact in [Once(MORE, "no"), Retold(MORE, {}), Not(MORE), And(Done(X), MORE), And(MORE, Done(X)),
                     Since(X, MORE), Changes(MORE, 1), Xor(MORE, MORE), Not(Not(Not(MORE))),
                     Once(Once(MORE, "a"), "b")]:
            self.assert_error(TooMany, STATES, fact.machine_for, X)
        for fact in [Once(SIXTY, "a"), Not(SIXTY), Since(X, SIXTY), And(Done(X), SIXTY), Changes(SIXTY, 1)]:
            self.assertLessEqual(len(fact.machine_for(X)), 60)
            self.assertLessEqual(len(fact.machine_for(("z",))), 2)
        self.assertEqual(len(Once(MORE, "a").machine_for(("z",))), 1)

    def test_many_states_on_the_way_that_are_alike(self):
        fact = Xor(Retold(Turn(X, 59), {"0": "yes"}), Retold(Turn(("y",), 59), {"0": "yes"}))
        self.assert_error(TooMany, STATES, fact.machine_for, ("x", "y"))
        alike = Once(Turn(X, 59), "58") & Once(Turn(X, 59), "58")
        self.assertEqual(len(alike.machine_for(X)), 59)
        same = Turn(X, 59) * Retold(Turn(X, 58), {str(k): "0" for k in range(58)})
        self.assertEqual(len(same.machine_for(X)), 59)
        rings = Retold(Turn(X, 59), {"0": "yes"}) & Retold(Turn(X, 58), {"0": "yes"})
        self.assert_error(TooMany, STATES, rings.machine_for, X)

    def test_long_tells(self):
        wide = ("x" * 12, "y" * 12)
        self.assertEqual(len(Recent(4).machine_for(wide)), 31)
        one = wide[:1]
        self.assertEqual(len(Recent(4).machine_for(one)), 5)
        self.assert_error(TooMany, LONG, Recent(5).machine_for, one)
        self.assertEqual(len(Recent(30).machine_for(X)), 31)
        self.assert_error(TooMany, LONG, Recent(31).machine_for, X)
        self.assert_error(TooMany, LONG, Recent(59).machine_for, X)
        half = Retold(Done(X), {"yes": "a" * 30, "no": "b" * 29})
        self.assertEqual(len((half * Retold(Done(X), {"yes": "a" * 29, "no": "b" * 30})).machine_for(X)), 2)
        self.assert_error(TooMany, LONG, (half * Retold(Done(X), {"yes": "a" * 30})).machine_for, X)
        self.assertEqual(len((half * Retold(Done(X), {"yes": "a" * 30})).machine_for(("z",))), 1)

    def test_long_tells_of_the_facts_it_is_made_of(self):
        for make in [Not, lambda f: Once(f, "0"), lambda f: Retold(f, {}), lambda f: Changes(f, 2),
                     lambda f: And(Done(X), f), lambda f: Since(("z",), f), lambda f: Not(Once(Not(f), "yes")),
                     lambda f: Since(X, f)]:
            self.assert_error(TooMany, LONG, make(Recent(31)).machine_for, X)
            make(Recent(30)).machine_for(X)

    def test_many_states_come_ahead_of_long_tells(self):
        for fact in [And(Recent(31), Not(MORE)), And(Not(MORE), Recent(31)), Recent(31) * MORE, MORE * Recent(31),
                     Recent(31) * Turn(X, 40), Not(Recent(31) * Turn(X, 40)), Once(Recent(31) & MORE, "yes")]:
            self.assert_error(TooMany, STATES, fact.machine_for, X)
        self.assertEqual(len((Recent(29) * Turn(X, 2)).machine_for(X)), 31)

    def test_long_tells_are_told_apart(self):
        """Facts whose tells are long, but differ, have states of their own."""
        fact = Both(Recent(31), Retold(Count(X, 31), {str(k): "x" for k in range(32)}))
        self.assert_error(TooMany, LONG, fact.machine_for, X)
        self.assert_error(TooMany, LONG, Not(Recent(58) * Done(X)).machine_for, X)
        self.assert_error(TooMany, STATES, Not(Recent(59) * Turn(X, 2)).machine_for, X)

    def test_all_kinds_are_taken(self):
        facts = [Done(X), Latest(X), Count(X, 1), Turn(X, 1), Level(X, X, 1), Ahead(X, X), Recent(1), Ends(X), Has(X),
                 Scattered(X)]
        for fact in facts:
            for made in [fact, Since(X, fact), Once(fact, "a"), Changes(fact, 1), Retold(fact, {}), ~fact, fact & fact,
                         fact | fact, fact ^ fact, fact * fact]:
                self.assertEqual(made.machine_for(X).told(X), made.told(X))


if __name__ == "__main__":
    unittest.main()
