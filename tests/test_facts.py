"""Facts: promises [2], [4] and [14] to [16]: what they are made from, their errors, attributes and equality."""

import itertools
import unittest

from betweenlooks import facts
from betweenlooks.errors import BadDeeds, BadNumber, BadTell, LooksError, TooMany
from betweenlooks.facts import (
    Ahead, And, Both, Changes, Count, Done, Ends, Has, Latest, Level, Not, Once, Or, Recent, Retold, Scattered, Since,
    Turn, Xor,
)
from helpers import ODD_VALUES, ErrorCase

A = Done(("a",))
B = Latest(("b", "c"))
GROUPED = {
    "done": lambda group: Done(group),
    "latest": lambda group: Latest(group),
    "count": lambda group: Count(group, 3),
    "turn": lambda group: Turn(group, 3),
    "up": lambda group: Level(group, ("u",), 3),
    "down": lambda group: Level(("u",), group, 3),
    "first": lambda group: Ahead(group, ("u",)),
    "second": lambda group: Ahead(("u",), group),
    "since": lambda group: Since(group, A),
}
PATTERNED = {"ends": Ends, "has": Has, "scattered": Scattered}
NUMBERED = {
    "count": lambda number: Count(("a",), number),
    "turn": lambda number: Turn(("a",), number),
    "level": lambda number: Level(("a",), ("a",), number),
    "recent": lambda number: Recent(number),
    "changes": lambda number: Changes(A, number),
}
INNER = {
    "since": lambda fact: Since(("a",), fact),
    "once": lambda fact: Once(fact, "yes"),
    "changes": lambda fact: Changes(fact, 2),
    "retold": lambda fact: Retold(fact, {"yes": "no"}),
    "not": lambda fact: Not(fact),
    "and first": lambda fact: And(fact, A),
    "and second": lambda fact: And(A, fact),
    "or first": lambda fact: Or(fact, A),
    "or second": lambda fact: Or(A, fact),
    "xor first": lambda fact: Xor(fact, A),
    "xor second": lambda fact: Xor(A, fact),
    "both first": lambda fact: Both(fact, A),
    "both second": lambda fact: Both(A, fact),
    "~": lambda fact: ~fact,
    "&": lambda fact: A & fact,
    "|": lambda fact: fact | A,
    "^": lambda fact: fact ^ A,
    "*": lambda fact: fact * A,
}


def negated(levels):
    """A fact of so many levels."""
    fact = A
    for _ in range(levels - 1):
        fact = Not(fact)
    return fact


class Arguments(ErrorCase):
    def test_groups(self):
        for name, make in GROUPED.items():
            with self.subTest(name):
                make(("a",))
                make(["a", "b2", "c"])
                make(tuple(f"d{k}" for k in range(40)))
                self.assert_error(BadDeeds, (0,), make, ())
                self.assert_error(BadDeeds, (0,), make, [])
                self.assert_error(BadDeeds, (2,), make, ("a", "b", "a", "A"))
                self.assert_error(BadDeeds, (1,), make, ["a", "a"])
                for odd in ODD_VALUES:
                    self.assert_error(BadDeeds, (0,), make, (odd, "a", "a"))
                    self.assert_error(BadDeeds, (1,), make, ["a", odd, odd])
                self.assert_error(BadDeeds, (1,), make, ("a", "thirteensigns"))
                make(("a", "twelve012345"))

    def test_patterns(self):
        for name, make in PATTERNED.items():
            with self.subTest(name):
                self.assertEqual(make(["a", "a", "b"]).pattern, ("a", "a", "b"))
                make(("a",) * 12)
                self.assert_error(BadDeeds, (0,), make, ())
                self.assert_error(TooMany, ("deeds", 13, 12), make, ("a",) * 13)
                self.assert_error(TooMany, ("deeds", 20, 12), make, ["a", "b"] * 10)
                self.assert_error(BadDeeds, (13,), make, ("a",) * 13 + ("",))
                for odd in ODD_VALUES:
                    self.assert_error(BadDeeds, (0,), make, (odd,))
                    self.assert_error(BadDeeds, (2,), make, ("a", "a", odd, odd))

    def test_numbers(self):
        for name, make in NUMBERED.items():
            with self.subTest(name):
                make(1)
                make(59)
                for wrong in (0, -1, 60, 10 ** 40, True, False, None, "1", 1.0, (1,)):
                    self.assert_error(BadNumber, (wrong,), make, wrong)

    def test_errors_by_the_order_of_the_arguments(self):
        bad = ("a", "b", "a")
        self.assert_error(BadDeeds, (2,), Count, bad, 0)
        self.assert_error(BadDeeds, (2,), Turn, bad, 60)
        self.assert_error(BadDeeds, (2,), Level, bad, ("A",), 0)
        self.assert_error(BadDeeds, (0,), Level, ("a",), (), 0)
        self.assert_error(BadDeeds, (1,), Level, ("a",), ("b", "b"), 0)
        self.assert_error(BadNumber, (0,), Level, ("a",), ("a",), 0)
        self.assert_error(BadDeeds, (2,), Ahead, bad, ())
        self.assert_error(BadDeeds, (0,), Ahead, ("a",), ())

    def test_tells(self):
        Once(A, "a/b/0")
        Once(A, "x" * 60)
        for wrong in [*ODD_VALUES, "x" * 61, "yes ", "Yes"]:
            self.assert_error(BadTell, (0,), Once, A, wrong)

    def test_tables(self):
        Retold(A, {})
        Retold(A, {"yes": "x" * 60, "x" * 60: "yes"})
        for wrong in [1, None, (), "A", "", "x" * 61, ("a",)]:
            self.assert_error(BadTell, (1,), Retold, A, {"yes": "no", wrong: "yes", "": ""})
            self.assert_error(BadTell, (1,), Retold, A, {"yes": "no", "no": wrong, "": ""})
            self.assert_error(BadTell, (0,), Retold, A, {wrong: wrong, "no": "yes"})
        for wrong in ODD_VALUES:
            self.assert_error(BadTell, (2,), Retold, A, {"z": "no", "b": "no", "a": wrong})

    def test_by_names(self):
        made = [
            Done(group=("a",)), Latest(group=("a",)), Count(group=("a",), top=1), Turn(group=("a",), modulus=1),
            Level(up=("a",), down=("b",), top=1), Ahead(first=("a",), second=("b",)), Recent(many=1),
            Ends(pattern=("a",)), Has(pattern=("a",)), Scattered(pattern=("a",)), Since(group=("a",), fact=A),
            Once(fact=A, tell="yes"), Changes(fact=A, modulus=1), Retold(fact=A, table={"a": "b"}), Not(fact=A),
            And(one=A, two=B), Or(one=A, two=B), Xor(one=A, two=B), Both(one=A, two=B),
        ]
        names = [[name for name in facts.__dict__ if getattr(facts, name) is fact.__class__][0] for fact in made]
        self.assertEqual(len(set(names)), 19)
        for fact in made:
            fact.told(row=("a",))
            fact.machine_for(deeds=("a",))


class Attributes(ErrorCase):
    def assert_attributes(self, fact, /, **wanted):
        for name, value in wanted.items():
            self.assertEqual(getattr(fact, name), value)
            self.assertIs(getattr(fact, name).__class__, value.__class__)

    def test_of_each_class(self):
        ab, cd = ("a", "b"), ("c", "d")
        self.assert_attributes(Done(["a", "b"]), group=ab)
        self.assert_attributes(Latest(["a", "b"]), group=ab)
        self.assert_attributes(Count(["a", "b"], 4), group=ab, top=4)
        self.assert_attributes(Turn(["a", "b"], 4), group=ab, modulus=4)
        self.assert_attributes(Level(["a", "b"], ["c", "d"], 4), up=ab, down=cd, top=4)
        self.assert_attributes(Ahead(["a", "b"], ["c", "d"]), first=ab, second=cd)
        self.assert_attributes(Recent(4), many=4)
        self.assert_attributes(Ends(["a", "a"]), pattern=("a", "a"))
        self.assert_attributes(Has(["a", "a"]), pattern=("a", "a"))
        self.assert_attributes(Scattered(["a", "a"]), pattern=("a", "a"))
        self.assert_attributes(Since(["a", "b"], B), group=ab, fact=B)
        self.assert_attributes(Once(B, "b"), fact=B, tell="b")
        self.assert_attributes(Changes(B, 4), fact=B, modulus=4)
        self.assert_attributes(Retold(B, {"z": "a", "b": "y", "ba": "x", "9": "w"}), fact=B,
                               pairs=(("9", "w"), ("b", "y"), ("ba", "x"), ("z", "a")))
        self.assert_attributes(Retold(B, {}), fact=B, pairs=())
        self.assert_attributes(Not(B), fact=B)
        for kind in (And, Or, Xor, Both):
            self.assert_attributes(kind(A, B), one=A, two=B)

    def test_changes_behind_have_no_effect(self):
        for name, make in [*GROUPED.items(), *PATTERNED.items()]:
            with self.subTest(name):
                group = ["a", "b"]
                fact = make(group)
                row = ("b", "u", "c", "a", "b", "a")
                before = fact.told(row)
                group[:] = ["c"]
                group.append("z")
                self.assertEqual(fact, make(["a", "b"]))
                self.assertEqual(fact.told(row), before)
        table = {"yes": "1", "no": "0"}
        fact = Retold(A, table)
        table["yes"] = "2"
        del table["no"]
        self.assertEqual([fact.told(()), fact.told(("a",))], ["0", "1"])
        self.assertEqual(fact.pairs, (("no", "0"), ("yes", "1")))

    def test_arguments_are_not_changed(self):
        group, row, deeds, table = ["b", "a"], ["a", "b"], ["b", "a"], {"yes": "no", "b": "a"}
        fact = Retold(Since(group, Latest(group)), table)
        fact.told(row)
        fact.machine_for(deeds)
        self.assertEqual([group, row, deeds, table], [["b", "a"], ["a", "b"], ["b", "a"], {"yes": "no", "b": "a"}])
        self.assertEqual(list(table), ["yes", "b"])


class Equality(unittest.TestCase):
    def all_kinds(self):
        """Facts no two of which are equal."""
        ab, ba, a = ("a", "b"), ("b", "a"), ("a",)
        made = [kind(group) for kind in (Done, Latest, Ends, Has, Scattered) for group in (ab, ba, a)]
        made += [kind(group, n) for kind in (Count, Turn) for group in (ab, ba) for n in (1, 2)]
        made += [Level(ab, ba, 1), Level(ba, ab, 1), Level(ab, ab, 1), Level(ab, ba, 2)]
        made += [Ahead(ab, ba), Ahead(ba, ab), Ahead(a, ab), Recent(1), Recent(2), Ends(("a", "a"))]
        made += [Since(ab, A), Since(ba, A), Since(ab, B), Once(A, "yes"), Once(A, "no"), Once(B, "yes")]
        made += [Changes(A, 1), Changes(A, 2), Changes(B, 1), Not(A), Not(B), Not(Not(A))]
        made += [Retold(A, {}), Retold(B, {}), Retold(A, {"a": "b"}), Retold(A, {"b": "a"}), Retold(A, {"a": "c"}),
                 Retold(A, {"a": "b", "b": "a"})]
        made += [kind(*two) for kind in (And, Or, Xor, Both) for two in ((A, B), (B, A), (A, A))]
        made += [And(Or(A, B), A), And(A, Or(B, A)), And(Or(A, A), B)]
        return made

    def test_equal_exactly_if_class_and_attributes_are(self):
        one, two = self.all_kinds(), self.all_kinds()
        for (i, a), (j, b) in itertools.product(enumerate(one), enumerate(two)):
            self.assertEqual(a == b, i == j, (i, j))
            self.assertEqual(a != b, i != j, (i, j))

    def test_lists_and_tuples_make_equal_facts(self):
        self.assertEqual(Since(["a", "b"], Ends(["a"])), Since(("a", "b"), Ends(("a",))))
        self.assertEqual(Retold(A, {"a": "b", "b": "a"}), Retold(A, {"b": "a", "a": "b"}))

    def test_values_of_other_kinds(self):
        for other in [None, "done(a)", ("a",), 1, A.told(()), A.machine_for(("a",)), object()]:
            self.assertFalse(A == other)
            self.assertTrue(A != other)

    def test_operators_and_classes_make_equal_facts(self):
        for made, by_class in [(~A, Not(A)), (A & B, And(A, B)), (A | B, Or(A, B)), (A ^ B, Xor(A, B)),
                               (A * B, Both(A, B)), (~A & B | A ^ ~B * A, Or(And(Not(A), B), Xor(A, Both(Not(B), A))))]:
            self.assertEqual(made, by_class)
            self.assertIs(made.__class__, by_class.__class__)

    def test_operators_with_values_of_other_kinds(self):
        for other in [None, "done(a)", 1, True, A.machine_for(("a",))]:
            for call in [lambda: A & other, lambda: A | other, lambda: A ^ other, lambda: A * other]:
                with self.assertRaises(TypeError):
                    call()

    def test_operators_of_every_class(self):
        for fact in self.all_kinds():
            self.assertEqual([~fact, fact & A, fact | A, fact ^ A, fact * A],
                             [Not(fact), And(fact, A), Or(fact, A), Xor(fact, A), Both(fact, A)])

    def test_facts_of_a_hundred_levels(self):
        self.assertEqual(negated(100), negated(100))
        self.assertNotEqual(negated(100), negated(99))
        self.assertNotEqual(negated(99), negated(100))


class Levels(ErrorCase):
    def test_a_hundred_levels_and_one_more(self):
        for name, make in INNER.items():
            with self.subTest(name):
                fact = make(negated(99))
                self.assert_error(TooMany, ("facts", 101, 100), make, fact)
                self.assert_error(TooMany, ("facts", 101, 100), make, negated(100))

    def test_levels_of_one_kind_alone(self):
        for name, make in INNER.items():
            with self.subTest(name):
                fact = B
                for _ in range(99):
                    fact = make(fact)
                self.assert_error(TooMany, ("facts", 101, 100), make, fact)

    def test_the_deeper_one_counts(self):
        deep, flat = negated(99), negated(98)
        self.assert_error(TooMany, ("facts", 101, 100), And, Or(flat, deep), flat)
        self.assert_error(TooMany, ("facts", 101, 100), And, flat, Or(deep, flat))
        And(Or(flat, flat), deep)

    def test_behind_the_other_errors(self):
        deep = negated(100)
        self.assert_error(BadDeeds, (0,), Since, (), deep)
        self.assert_error(BadTell, (0,), Once, deep, "A")
        self.assert_error(BadNumber, (0,), Changes, deep, 0)
        self.assert_error(BadTell, (1,), Retold, deep, {"a": "b", "b": ""})

    def test_every_class_has_its_own_methods(self):
        for kind in (Done, Latest, Count, Turn, Level, Ahead, Recent, Ends, Has, Scattered, Since, Once, Changes,
                     Retold, Not, And, Or, Xor, Both):
            self.assertIn("told", vars(kind))
            self.assertIn("machine_for", vars(kind))
            self.assertEqual(kind.__module__, "betweenlooks.facts")
        self.assertTrue(issubclass(TooMany, LooksError))


if __name__ == "__main__":
    unittest.main()
