"""What facts tell: promises [14] to [16], reckoned anew for each row, and the error of tells that are too long."""

import random
import unittest

from betweenlooks.errors import BadDeeds, TooMany
from betweenlooks.facts import (
    Ahead, And, Both, Changes, Count, Done, Ends, Has, Latest, Level, Not, Once, Or, Recent, Retold, Scattered, Since,
    Turn, Xor,
)
from helpers import ODD_VALUES, ErrorCase, rows_up_to
from reckoning import class_names, reckon, renamed, some_fact, some_simple, too_long

LONG = ("characters", 61, 60)
WIDE = [f"longdeed{k:04d}" for k in range(10)]


class Simple(ErrorCase):
    def assert_reckoned(self, fact, rows):
        for row in rows:
            self.assertEqual(fact.told(row), reckon(fact, row), row)

    def test_examples_of_the_document(self):
        row = ("a", "b", "a")
        self.assertEqual(Recent(2).told(row), "b/a")
        self.assertEqual(Count(("a",), 1).told(row), "1")
        self.assertEqual(Ahead(("b",), ("a",)).told(row), "no")
        self.assertEqual(Since(("b",), Done(("a",))).told(row), "yes")
        self.assertEqual(Changes(Latest(("a", "b")), 2).told(row), "1")

    def test_plain_rows(self):
        a, b = ("a",), ("b",)
        rows = [(), ("z",), a, b, ("a", "b"), ("b", "z", "a", "z")]
        told = {
            Done: (Done(a), ["no", "no", "yes", "no", "yes", "yes"]),
            Latest: (Latest(("b", "a")), ["0", "0", "a", "b", "b", "a"]),
            Ahead: (Ahead(a, b), ["no", "no", "yes", "no", "yes", "no"]),
            Recent: (Recent(2), ["0", "z", "a", "b", "a/b", "a/z"]),
            Ends: (Ends(("a", "b")), ["no", "no", "no", "no", "yes", "no"]),
            Level: (Level(a, b, 1), ["0", "0", "1", "0", "0", "1"]),
        }
        for fact, wanted in told.values():
            self.assertEqual([fact.told(row) for row in rows], wanted)

    def test_all_short_rows(self):
        chance = random.Random(14)
        for _ in range(150):
            deeds = ["a", "b", "c"][:chance.randint(1, 3)]
            fact = some_simple(chance, deeds)
            self.assert_reckoned(fact, rows_up_to(deeds + ["z"], 4))

    def test_patterns_in_all_short_rows(self):
        for pattern in rows_up_to("ab", 4)[1:]:
            for kind in (Ends, Has, Scattered):
                self.assert_reckoned(kind(pattern), rows_up_to("ab", 6))
                self.assert_reckoned(kind(pattern), rows_up_to("abz", 4))

    def test_patterns_of_twelve(self):
        chance = random.Random(12)
        for _ in range(60):
            pattern = tuple(chance.choices("ab", weights=(5, 1), k=12))
            row = tuple(chance.choices("ab", weights=(5, 1), k=20)) + pattern + tuple(chance.choices("abz", k=9))
            for kind in (Ends, Has, Scattered):
                self.assert_reckoned(kind(pattern), [row[:end] for end in range(len(row) + 1)])

    def test_levels(self):
        for top in (1, 2, 3):
            for up, down in [("a", "b"), ("ab", "b"), ("a", "ab"), ("ab", "ab"), ("ab", "c")]:
                self.assert_reckoned(Level(tuple(up), tuple(down), top), rows_up_to("abc", 6))

    def test_a_deed_of_both_groups_raises_and_then_lowers(self):
        both = ("x",)
        self.assertEqual([Level(both, both, 2).told(both * k) for k in range(3)], ["0", "0", "0"])
        fact = Level(("x", "u"), ("x",), 2)
        self.assertEqual([fact.told(("u",) * 2 + both * k) for k in range(3)], ["2", "1", "1"])

    def test_a_deed_of_both_groups_is_in_the_first(self):
        self.assertEqual(Ahead(("a",), ("a", "b")).told(("a",)), "yes")
        self.assertEqual(Ahead(("a", "b"), ("a",)).told(("b", "a")), "yes")

    def test_long_rows_and_great_numbers(self):
        chance = random.Random(70)
        for number in (1, 10, 58, 59):
            for _ in range(5):
                row = tuple(chance.choices(["a", "b", "z"], weights=(8, 2, 1), k=70))
                facts = [Count(("a",), number), Turn(("a", "b"), number), Level(("a",), ("b",), number),
                         Done(("b",)), Latest(("b", "z")), Ahead(("b",), ("z",)), Changes(Latest(("a", "b")), number)]
                for fact in facts:
                    self.assert_reckoned(fact, [row, row[:61], row[:60], row[:59]])
        self.assertEqual(Count(("a",), 59).told(("a",) * 70), "59")
        self.assertEqual(Turn(("a",), 59).told(("a",) * 70), "11")
        self.assertEqual(Level(("a",), ("b",), 59).told(("a",) * 70 + ("b",)), "58")

    def test_recent(self):
        self.assert_reckoned(Recent(3), rows_up_to(["a", "b2", "z"], 4))
        self.assertEqual(Recent(30).told(("a",) * 30 + ("b",)), "/".join(["a"] * 29 + ["b"])[:59])
        self.assertEqual(Recent(59).told(("a",) * 30), "/".join(["a"] * 30))

    def test_rows_as_lists(self):
        self.assertEqual(Recent(2).told(["a", "b", "a"]), "b/a")
        self.assertEqual(Ends(("b", "a")).told(["a", "b", "a"]), "yes")
        self.assertEqual(Has(["b", "a"]).told(["a", "b", "a"]), "yes")

    def test_no_deeds(self):
        facts = [Done(("a",)), Latest(("a",)), Count(("a",), 2), Turn(("a",), 2), Level(("a",), ("b",), 1),
                 Ahead(("a",), ("b",)), Recent(2), Ends(("a",)), Has(("a",)), Scattered(("a",))]
        facts += [kind(fact) for fact in facts for kind in (Not, lambda fact: Since(("b",), fact))]
        for fact in facts:
            self.assert_error(BadDeeds, (0,), fact.told, ("A",))
            self.assert_error(BadDeeds, (1,), fact.told, ["a", "thirteensigns", 1])
            for odd in ODD_VALUES:
                self.assert_error(BadDeeds, (2,), fact.told, ("a", "other", odd, odd))


class Made(ErrorCase):
    def test_all_short_rows(self):
        chance = random.Random(16)
        for _ in range(500):
            deeds = ["a", "b", "c"][:chance.randint(1, 3)]
            fact = some_fact(chance, deeds, 4)
            for row in rows_up_to(deeds + ["z"], 3):
                self.assertEqual(fact.told(row), reckon(fact, row))

    def test_each_kind_around_each_simple_one(self):
        chance = random.Random(17)
        for _ in range(40):
            fact, other = some_simple(chance, "abc"), some_simple(chance, "abc")
            for made in [Since(("a",), fact), Since(("a", "b"), Since(("c",), fact)), Once(fact, "0"),
                         Once(Since(("b",), fact), "1"), Since(("b",), Once(fact, "yes")), Changes(fact, 3),
                         Since(("a",), Changes(fact, 3)), Changes(Since(("a",), fact), 3),
                         Retold(fact, {"no": "yes", "0": "yes", "yes": "no"}), ~fact, fact & other, fact | other,
                         fact ^ other, fact * other, ~~fact]:
                for row in rows_up_to("abc", 4):
                    self.assertEqual(made.told(row), reckon(made, row))

    def test_once_at_the_beginning_and_at_the_end(self):
        fact = Once(Latest(("a", "b")), "0")
        self.assertEqual([fact.told(row) for row in [(), ("a",), ("b", "a")]], ["yes"] * 3)
        fact = Once(Latest(("a", "b")), "b")
        self.assertEqual([fact.told(tuple(row)) for row in ["", "a", "b", "ba", "ab", "aa"]],
                         ["no", "no", "yes", "yes", "yes", "no"])

    def test_since_leaves_its_deed_out(self):
        fact = Since(("a",), Recent(3))
        self.assertEqual([fact.told(tuple(row)) for row in ["", "bb", "bba", "bbab", "abba"]],
                         ["0", "b/b", "0", "b", "0"])

    def test_signs_for_tells_other_than_yes_and_no(self):
        latest = Latest(("yes", "no", "a"))
        done = Done(("d",))
        for row in rows_up_to(["yes", "no", "a", "d"], 2):
            for fact in [~latest, latest & done, latest | done, latest ^ done, done ^ latest]:
                self.assertEqual(fact.told(row), reckon(fact, row))

    def test_retold_once_and_not_again(self):
        fact = Retold(Latest(("a", "b")), {"a": "b", "b": "a"})
        self.assertEqual([fact.told(tuple(row)) for row in ["", "a", "b"]], ["0", "b", "a"])

    def test_a_hundred_levels(self):
        fact = Turn(("a",), 3)
        for k in range(99):
            fact = [Since(("c",), fact), Or(fact, Turn(("a",), 3)), Changes(fact, 3), Retold(fact, {"1": "yes"})][k % 4]
        for row in [(), ("a",), ("a", "a", "c", "a"), ("c",) * 30]:
            self.assertIn(fact.told(row), ("yes", "no", "0", "1", "2"))
        fact = Count(("a",), 9)
        for _ in range(99):
            fact = Since(("c",), fact)
        self.assertEqual([fact.told(tuple(row)) for row in ["aa", "aac", "acaaa"]], ["2", "0", "3"])
        fact = Done(("a",))
        for _ in range(98):
            fact = Xor(Done(("a",)), fact)
        self.assertEqual([fact.told(tuple(row)) for row in ["", "a", "bab"]], ["no", "yes", "yes"])

    def test_a_thousand_facts(self):
        fact = Done(("a",))
        for _ in range(8):
            fact = And(fact, fact)
        fact = Or(fact, Not(fact))
        self.assertEqual([fact.told(("b",) * 20), fact.told(("b",) * 20 + ("a",))], ["yes", "yes"])

    def test_deeds_with_other_names(self):
        chance = random.Random(20)
        for _ in range(100):
            fact = some_fact(chance, ["a", "b", "c"], 3)
            if {"Latest", "Recent"} & set(class_names(fact)):
                continue
            for names in [{"a": "b", "b": "a"}, {"a": "new1", "b": "new2", "c": "new3"}]:
                other = renamed(fact, names)
                for row in rows_up_to("abc", 3):
                    self.assertEqual(other.told([names.get(deed, deed) for deed in row]), fact.told(row))


class TooLong(ErrorCase):
    def assert_long_exactly_where_it_is(self, fact, rows):
        for row in rows:
            if too_long(fact, row):
                self.assert_error(TooMany, LONG, fact.told, row)
            else:
                self.assertEqual(fact.told(row), reckon(fact, row))

    def test_sixty_and_more(self):
        sixty = ("a" * 12, "b" * 12, "c" * 12, "d" * 12, "e" * 8)
        self.assertEqual(len(Recent(5).told(sixty)), 60)
        self.assert_error(TooMany, LONG, Recent(5).told, sixty[:4] + ("e" * 9,))
        self.assert_error(TooMany, LONG, Recent(5).told, sixty[:4] + ("e" * 9, "a", "a", "a", "a", "a"))
        self.assertEqual(Recent(4).told(sixty[:4] + ("e" * 9,)).count("/"), 3)
        x, y = Retold(Done(("x",)), {"yes": "x" * 30}), Retold(Done(("y",)), {"yes": "y" * 29, "no": "n" * 30})
        self.assertEqual(len((x * y).told(("y", "x"))), 60)
        self.assert_error(TooMany, LONG, (x * y).told, ("x", "y"))

    def test_the_deeds_come_first(self):
        fact = Recent(59)
        self.assert_error(BadDeeds, (40,), fact.told, ("a",) * 40 + ("A",))
        self.assert_error(TooMany, LONG, fact.told, ("a",) * 40)

    def test_inside_of_other_facts(self):
        wide = tuple(WIDE[:5])
        for make in [Not, lambda f: Once(f, "0"), lambda f: Retold(f, {}), lambda f: Changes(f, 2),
                     lambda f: And(Done(("a",)), f), lambda f: Since(("z",), f), lambda f: Not(Once(Not(f), "yes"))]:
            fact = make(Recent(5))
            self.assertEqual(fact.told(wide[:4]), reckon(fact, wide[:4]))
            self.assert_error(TooMany, LONG, fact.told, wide)
            self.assert_error(TooMany, LONG, fact.told, wide + ("a", "a", "a"))

    def test_what_since_does_not_ask(self):
        wide = tuple(WIDE[:5])
        fact = Since(("z",), Recent(6))
        self.assert_error(TooMany, LONG, fact.told, wide + ("z",))
        self.assertEqual(fact.told(wide[:4] + ("z",) + wide[:4]), "/".join(wide[:4]))
        self.assert_error(TooMany, LONG, Recent(6).told, wide[:4] + ("z",) + wide[:4])
        fact = Since((WIDE[4],), Recent(5))
        self.assertEqual(fact.told(wide), "0")
        self.assertEqual(fact.told(wide * 3), "0")
        self.assert_error(TooMany, LONG, And(fact, Recent(5)).told, wide)
        inner = Since((WIDE[1],), Not(Since((WIDE[0],), Recent(5))))
        self.assertEqual(inner.told(wide), "yes")
        self.assert_error(TooMany, LONG, inner.told, tuple(WIDE[:7]))

    def test_exactly_where_it_is_by_chance(self):
        chance = random.Random(60)
        names = {"a": WIDE[0], "b": WIDE[1], "c": WIDE[2]}
        found = [0, 0]
        for _ in range(60):
            fact = some_fact(chance, ["a", "b"], 3)
            fact = chance.choice([lambda: Since(("a",), fact * Recent(6)), lambda: Not(Recent(6)) & fact,
                                  lambda: Once(Since(("b",), Recent(5) * fact), "no"), lambda: Recent(7) ^ fact,
                                  lambda: Changes(Recent(5) * Recent(1), 2)])()
            fact = renamed(fact, names)
            for _ in range(15):
                row = [names[deed] for deed in chance.choices("abc", weights=(2, 3, 6), k=chance.randint(0, 8))]
                found[too_long(fact, row)] += 1
                self.assert_long_exactly_where_it_is(fact, [row])
        self.assertGreater(min(found), 50)


if __name__ == "__main__":
    unittest.main()
