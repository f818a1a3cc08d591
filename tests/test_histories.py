"""Histories: promises [2] and [22] to [27]."""

import itertools
import math
import random
import time
import unittest

from betweenlooks.errors import BadDeeds, BadLook, BadNumber, BadPlace, BadStretch, BadText, TooMany
from betweenlooks.histories import History, histories
from helpers import ODD_VALUES, ErrorCase, rows_up_to

ONE = History((("a", "b"), (), ("a",)))
TOO_MANY = ("histories", 20001, 20000)
NO_LOOKS = [-1, -2, True, False, None, "0", 0.0, (), (0,), 10 ** 40]


def some_stretches(chance, many):
    return [tuple(chance.choices(["a", "b", "go2"], k=chance.randint(0, 3))) for _ in range(many)]


class Made(ErrorCase):
    def test_stretches(self):
        chance = random.Random(22)
        for many in range(8):
            for _ in range(5):
                stretches = some_stretches(chance, many)
                for given in [stretches, tuple(stretches), [list(row) for row in stretches]]:
                    history = History(given)
                    self.assertEqual(history.stretches, tuple(stretches))
                    self.assertIs(history.stretches.__class__, tuple)
                    self.assertTrue(all(row.__class__ is tuple for row in history.stretches))
                    self.assertEqual(len(history), many)
                    self.assertEqual(list(history), stretches)
                    self.assertEqual([history[k] for k in range(many)], stretches)
                    self.assertEqual(history.whole, tuple(itertools.chain(*stretches)))
                    self.assertIs(history.whole.__class__, tuple)

    def test_without_stretches(self):
        for history in [History(), History(()), History([]), History(stretches=())]:
            self.assertEqual([len(history), history.stretches, history.whole, history.text, list(history)],
                             [0, (), (), "", []])

    def test_copies(self):
        inner = ["a"]
        given = [inner, []]
        history = History(given)
        inner.append("b")
        given.append(["c"])
        self.assertEqual(history, History([["a"], []]))
        list(history).append(())
        self.assertEqual(len(history), 2)

    def test_bad_stretches(self):
        for odd in [None, "a", "", 1, {"a": 1}, {"a"}, ("a", "A"), ["a", ""], ("a", 1), (("a",),), [None], ("a", "b ")]:
            self.assert_error(BadStretch, (0,), History, [odd, odd])
            self.assert_error(BadStretch, (2,), History, (("a",), [], odd, ("b",), odd))
        for odd in ODD_VALUES:
            self.assert_error(BadStretch, (1,), History, [(), ("a", odd)])
        self.assert_error(BadStretch, (1,), History, [["a"], ["thirteensigns"]])

    def test_equality(self):
        made = [History(rows) for rows in [(), [()], [(), ()], [("a",)], [("a",), ()], [(), ("a",)], [("a", "a")],
                                           [("a",), ("a",)], [("b",)], [("a", "b")]]]
        for (i, a), (j, b) in itertools.product(enumerate(made), enumerate(made)):
            self.assertEqual(a == History(b.stretches), i == j)
            self.assertEqual(a != b, i != j)
        for other in [None, (), ("a",), "a |", ((), ), 1]:
            self.assertFalse(History([()]) == other)
            self.assertTrue(History() != other)


class Looks(ErrorCase):
    def test_numbers_of_looks(self):
        for many in range(4):
            history = History([("a",)] * many)
            for wrong in NO_LOOKS + [many, many + 1]:
                self.assert_error(BadLook, (wrong,), history.__getitem__, wrong)
                self.assert_error(BadLook, (wrong,), history.until, wrong)
                self.assert_error(BadLook, (wrong,), history.without, wrong)

    def test_sums(self):
        chance = random.Random(23)
        for _ in range(50):
            one, two = some_stretches(chance, chance.randint(0, 3)), some_stretches(chance, chance.randint(0, 3))
            self.assertEqual((History(one) + History(two)).stretches, tuple(one + two))
        self.assertEqual(ONE + History(), ONE)
        with self.assertRaises(TypeError):
            ONE + (("a",),)

    def test_until(self):
        self.assertEqual([ONE.until(k).text for k in range(3)], ["a b |", "a b | |", "a b | | a |"])
        for k in range(3):
            self.assertEqual(ONE.until(k=k) + History(ONE.stretches[k + 1:]), ONE)

    def test_without(self):
        self.assertEqual([ONE.without(k).text for k in range(3)], ["a b | a |", "a b | a |", "a b | |"])
        self.assertEqual(History([("a",), ("b",), ("c",)]).without(k=1).stretches, (("a",), ("b", "c")))
        self.assertEqual(History([("a",), ("b",), ("c",)]).without(0).stretches, (("a", "b"), ("c",)))
        self.assertEqual(History([("a",)]).without(0), History())
        self.assertEqual(ONE.text, "a b | | a |")


class Cuts(ErrorCase):
    def test_the_example(self):
        self.assertEqual(History.cut(("a", "b", "a"), (2, 2, 3)), ONE)

    def test_all_cuts(self):
        row = ["a", "b", "c"]
        for many in range(4):
            for places in itertools.combinations_with_replacement(range(4), many):
                history = History.cut(row, list(places))
                self.assertEqual(len(history), many)
                self.assertEqual(history.whole, tuple(row[:places[-1]] if places else ()))
                self.assertEqual([len(history.until(k).whole) for k in range(many)], list(places))
                self.assertEqual(History.cut(row=tuple(row), places=places), history)

    def test_errors(self):
        self.assert_error(BadDeeds, (1,), History.cut, ("a", "A", ""), (7, 0))
        for odd in ODD_VALUES:
            self.assert_error(BadDeeds, (2,), History.cut, ["a", "a", odd], (0,))
        for wrong in [-1, 4, True, False, None, "1", 1.0, (1,), 10 ** 30]:
            self.assert_error(BadPlace, (0,), History.cut, ("a", "b", "a"), (wrong,))
            self.assert_error(BadPlace, (2,), History.cut, ("a", "b", "a"), [0, 1, wrong, 0])
        self.assert_error(BadPlace, (1,), History.cut, ("a", "b"), (2, 1, 0))
        self.assert_error(BadPlace, (2,), History.cut, ("a", "b"), (1, 1, 0))
        self.assert_error(BadPlace, (0,), History.cut, (), (1,))
        self.assertEqual(History.cut((), (0, 0)), History([(), ()]))


class Texts(ErrorCase):
    def test_the_example(self):
        self.assertEqual(ONE.text, "a b | | a |")

    def test_there_and_back(self):
        chance = random.Random(25)
        for many in range(8):
            for _ in range(20):
                history = History(some_stretches(chance, many))
                pieces = [piece for row in history.stretches for piece in [*row, "|"]]
                self.assertEqual(history.text, " ".join(pieces))
                self.assertEqual(History.read(history.text), history)
        self.assertEqual(History.read(""), History())
        self.assertEqual(History.read(text="| |"), History([(), ()]))
        self.assertEqual(History.read("a |").__class__, History)

    def test_no_texts(self):
        for text in [" ", "a", "a b", "| a", "a | b", "a  |", "a | ", " a |", "a |  |", "||", "a|", "a| |", "|a |",
                     "A |",
                     "a-b |", "a\n|", "a |\n", "a\t|", "thirteensigns |", "0a |", "\u00e9 |", "a | | b", "| ", " |",
                     "a \u00a0 |", "| | |a", "a, |", "/ |"]:
            self.assert_error(BadText, (1,), History.read, text)

    def test_spoiled_texts(self):
        chance = random.Random(251)
        for _ in range(300):
            text = History(some_stretches(chance, chance.randint(1, 4))).text
            at = chance.randint(0, len(text))
            spoiled = text[:at] + chance.choice(["", " ", "|", "a", "A", "0", "  "]) + text[at + chance.randint(0, 1):]
            try:
                history = History.read(spoiled)
            except BadText as error:
                self.assertEqual(error.line, 1)
                words = spoiled.split(" ")
                self.assertTrue(spoiled and (words[-1] != "|" or any(not (word == "|" or (
                    word.isalnum() and word.islower() and word[0].isalpha() and len(word) <= 12)) for word in words)))
            else:
                self.assertEqual(history.text, spoiled)


class AllHistories(ErrorCase):
    def plainly(self, deeds, looks, most):
        """All histories, sorted by the told order."""
        found = []
        for row in rows_up_to(deeds, most):
            for places in itertools.combinations_with_replacement(range(len(row) + 1), looks):
                if places[-1] == len(row):
                    found.append((len(row), [deeds.index(deed) for deed in row], places, row))
        return [History.cut(row, places) for _, _, places, row in sorted(found)]

    def test_the_example(self):
        self.assertEqual([history.text for history in histories(("x",), 2, 1)], ["| |", "| x |", "x | |"])

    def test_each_once_in_the_order(self):
        for deeds in [("a",), ("b", "a"), ("a", "c", "b")]:
            for looks in range(1, 4):
                for most in range(4):
                    found = histories(deeds, looks, most)
                    self.assertIs(found.__class__, list)
                    self.assertEqual(found, self.plainly(deeds, looks, most))

    def test_how_many(self):
        for many, looks, most in [(1, 1, 100), (1, 100, 1), (1, 100, 2), (1, 2, 100), (6, 1, 5), (6, 5, 0), (2, 1, 13),
                                  (1, 47, 3), (3, 2, 6), (1, 3, 40), (6, 100, 0), (2, 10, 4)]:
            wanted = sum(many ** n * math.comb(n + looks - 1, n) for n in range(most + 1))
            self.assertLessEqual(wanted, 20000)
            found = histories(tuple("abcdef"[:many]), looks, most)
            self.assertEqual(len(found), wanted)
            self.assertEqual({len(history) for history in found}, {looks})
            self.assertEqual(len({history.text for history in found}), wanted)

    def test_too_many(self):
        for many, looks, most in [(1, 48, 3), (2, 1, 14), (6, 1, 6), (1, 200 // 2, 3), (1, 3, 199 // 2)]:
            wanted = sum(many ** n * math.comb(n + looks - 1, n) for n in range(most + 1))
            self.assertGreater(wanted, 20000)
            self.assert_error(TooMany, TOO_MANY, histories, tuple("abcdef"[:many]), looks, most)

    def test_answers_come_quickly(self):
        begin = time.monotonic()
        self.assert_error(TooMany, TOO_MANY, histories, ("a",), 100, 100)
        self.assert_error(TooMany, TOO_MANY, histories, tuple("abcdef"), 100, 100)
        self.assert_error(TooMany, TOO_MANY, histories, tuple("abcdef"), 1, 100)
        self.assert_error(TooMany, TOO_MANY, histories, ("a", "b"), 100, 100)
        self.assertEqual(len(histories(("a",), 2, 100)), 5151)
        self.assertLess(time.monotonic() - begin, 5)

    def test_the_edge_of_twenty_thousand(self):
        sizes = {}
        for many in range(1, 7):
            for looks in range(1, 101):
                total = 0
                for most in range(101):
                    total += many ** most * math.comb(most + looks - 1, most)
                    if total > 20000:
                        break
                    sizes[total] = (many, looks, most)
        for total in sorted(sizes)[-3:]:
            many, looks, most = sizes[total]
            self.assertEqual(len(histories(tuple("abcdef"[:many]), looks, most)), total)
            self.assert_error(TooMany, TOO_MANY, histories, tuple("abcdef"[:many]), looks, most + 1)

    def test_errors_in_their_order(self):
        self.assert_error(BadDeeds, (0,), histories, (), 0, -1)
        self.assert_error(BadDeeds, (1,), histories, ("a", "a"), 0, -1)
        self.assert_error(BadDeeds, (7,), histories, tuple("abcdefgA"), 0, -1)
        self.assert_error(TooMany, ("deeds", 7, 6), histories, tuple("abcdefg"), 0, -1)
        for wrong in [0, -1, 101, True, False, None, "1", 1.0, (1,)]:
            self.assert_error(BadNumber, (wrong,), histories, ("a",), wrong, -1)
        for wrong in [-1, 101, True, False, None, "1", 1.0, (1,)]:
            self.assert_error(BadNumber, (wrong,), histories, ("a",), 1, wrong)
            self.assert_error(BadNumber, (wrong,), histories, tuple("abcdef"), 100, wrong)
        self.assertEqual(histories(deeds=["a"], looks=1, most=0), [History([()])])


if __name__ == "__main__":
    unittest.main()
