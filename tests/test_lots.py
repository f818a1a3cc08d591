"""Lots: promises [59] to [62] and the example of [63]."""

import itertools
import random
import unittest

from betweenlooks.clashes import Clash, suffices
from betweenlooks.customary import customary
from betweenlooks.errors import BadMark, BadNumber, BadPrice, NoDeed, OtherDeeds, TooMany
from betweenlooks.histories import History
from betweenlooks.lots import Cheapest, barred, choices, parting, prices
from betweenlooks.machines import Machine
from betweenlooks.marks import Lot, Mark
from betweenlooks.questions import Question
from betweenlooks.timings import Timing
from helpers import BACK, ODD_VALUES, ErrorCase, ring
from lookers import (
    KINDS, count_places, fewest_looks, showing, some_history, some_mark, some_question, some_table, some_timing,
)

AB, X, FR = ("a", "b"), ("x",), ("f", "r")
LINES = ("latch f", "latch r", "last f , r", "chain f , r", "ends f , r")
MARKS = [Mark(customary(FR, line), "cleared") for line in LINES]
PRICED = list(zip(MARKS, (1, 1, 2, 2, 3)))
ASKED = Question(BACK)
BARS = [Clash(History.read("f r |"), History.read("r f |")), Clash(History.read("f | f |"), History.read("f | r f |"))]
PLACES = ("places", 61, 60)


def subsets(many):
    """All choices, by their length and then as tuples."""
    return [choice for size in range(many + 1) for choice in itertools.combinations(range(many), size)]


def lot_of(marks, choice):
    return Lot([marks[index] for index in choice])


def some_marks(chance, question, most=6):
    """Marks, some of which do much of what the question does."""
    marks = [some_mark(chance, question.deeds, 2) for _ in range(chance.randint(0, most))]
    for _ in range(2):
        if marks and chance.random() < 0.6:
            machine = question.machine
            tells = [chance.choice("xyz") for _ in machine.rows]
            made = chance.choice([showing(machine), Machine(machine.deeds, machine.rows, tells)])
            marks[chance.randrange(len(marks))] = Mark(made, chance.choice(("kept", "cleared")))
    return marks


def some_case(chance, most=6):
    """A question, marks and a timing with few enough places."""
    while True:
        question = some_question(chance, chance.choice([X, AB, AB]))
        marks = some_marks(chance, question, most)
        timing = chance.choice([None, some_timing(chance, question.deeds)])
        if count_places(question, Lot(marks)) <= 60:
            return question, marks, timing


class Example(ErrorCase):
    def test_choices(self):
        self.assertEqual(choices(ASKED, MARKS), [(1, 3), (3, 4)])
        self.assertEqual(choices(timing=Timing(1), marks=MARKS, question=ASKED), [(2,), (4,), (0, 1), (1, 3)])

    def test_the_cheapest_one(self):
        found = Cheapest(ASKED, PRICED)
        self.assertEqual((found.choice, found.price, found.lot), ((1, 3), 3, Lot([MARKS[1], MARKS[3]])))

    def test_bars(self):
        self.assertEqual([parting(bar, MARKS) for bar in BARS], [(2, 3, 4), (1, 4)])
        self.assertEqual([ASKED.due(bar.first)[-1] for bar in BARS], ["yes", "no"])
        self.assertIs(barred(ASKED, PRICED, 3, BARS), True)
        self.assertIs(barred(ASKED, PRICED, 4, BARS), False)
        for left in (BARS[:1], BARS[1:], []):
            self.assertIs(barred(ASKED, PRICED, 3, left), False)
        self.assertIs(barred(ASKED, PRICED, 2, BARS[:1]), True)

    def test_prices(self):
        self.assertEqual(prices(ASKED, PRICED, 3), [2, 3, 3])
        self.assertTrue(suffices(ASKED, lot_of(MARKS, (4,)), Timing(2)))
        self.assertFalse(suffices(ASKED, lot_of(MARKS, (4,)), Timing(3)))


class Choices(ErrorCase):
    def wanted(self, question, marks, timing):
        """The choices that suffice while none with one mark less does."""
        enough = {choice for choice in subsets(len(marks))
                  if fewest_looks(question, lot_of(marks, choice), timing) is None}
        return [choice for choice in subsets(len(marks)) if choice in enough
                and not any(tuple(set(choice) - {gone}) in enough or tuple(sorted(set(choice) - {gone})) in enough
                            for gone in choice)]

    def test_by_the_words(self):
        chance = random.Random(59)
        seen = {}
        for _ in range(180):
            question, marks, timing = some_case(chance)
            found = choices(question, marks, timing)
            self.assertEqual(found, self.wanted(question, marks, timing))
            key = "none" if not found else "empty" if found == [()] else "some"
            seen[key] = seen.get(key, 0) + 1
        self.assertEqual(len(seen), 3)
        self.assertGreater(min(seen.values()), 15)

    def test_where_no_mark_is_needed(self):
        still = Question(Machine(AB, [[0, 0]], ["t"]))
        self.assertEqual(choices(still, []), [()])
        self.assertEqual(choices(still, [Mark(ring(2, None, AB), "kept")] * 6), [()])
        self.assertEqual(choices(Question(BACK), []), [])
        self.assertEqual(choices(Question(BACK), [MARKS[0]]), [])
        self.assertEqual(choices(Question(BACK), [], Timing(0)), [()])

    def test_equal_marks_stand_for_one_another(self):
        kept = Mark(BACK, "kept")
        self.assertEqual(choices(ASKED, [kept, MARKS[0], kept, kept]), [(0,), (2,), (3,)])


class Cheap(ErrorCase):
    def assert_cheapest(self, question, priced, timing):
        """The cheapest choice and its bars are right."""
        found = Cheapest(question, priced, timing)
        marks = [mark for mark, _ in priced]
        cost = {choice: sum(priced[k][1] for k in choice) for choice in subsets(len(marks))}
        enough = [choice for choice in cost if fewest_looks(question, lot_of(marks, choice), timing) is None]
        parts = [parting(bar, marks) for bar in found.bars]
        for bar in found.bars:
            self.assertTrue(bar.shows(question, Lot([]), timing))
        if not enough:
            self.assertEqual((found.choice, found.lot, found.price), (None, None, None))
            self.assertEqual(parts, [()])
            self.assertTrue(found.bars[0].shows(question, Lot(marks), timing))
            return None
        self.assertIn(found.choice, enough)
        self.assertEqual(found.price, min(cost[choice] for choice in enough))
        self.assertEqual(found.price, cost[found.choice])
        self.assertEqual(found.lot, lot_of(marks, found.choice))
        cheaper = [choice for choice in cost if cost[choice] < found.price]
        for choice in cheaper:
            self.assertTrue(any(not set(choice) & set(part) for part in parts))
        for bar in found.bars:
            self.assertTrue(any(bar.shows(question, lot_of(marks, choice), timing) for choice in cheaper))
        self.assertIs(barred(question, priced, found.price, found.bars, timing), True)
        self.assertIs(barred(question, priced, found.price + 1, found.bars, timing), False)
        return found.price

    def test_by_the_words(self):
        chance = random.Random(60)
        seen = {}
        for _ in range(180):
            question, marks, timing = some_case(chance)
            top = chance.choice([1, 3, 10 ** 30])
            priced = [chance.choice([tuple, list])((mark, chance.randint(1, top))) for mark in marks]
            price = self.assert_cheapest(question, priced, timing)
            key = price if price in (None, 0) else "some"
            seen[key] = seen.get(key, 0) + 1
        self.assertEqual(len(seen), 3)

    def test_the_greatest_prices(self):
        priced = [(mark, 10 ** 30) for mark in MARKS]
        self.assertEqual(Cheapest(priced=priced, question=ASKED, timing=None).price, 2 * 10 ** 30)
        self.assert_cheapest(ASKED, priced, Timing(3))

    def test_the_bars_are_a_new_list(self):
        found = Cheapest(ASKED, PRICED)
        many = len(found.bars)
        found.bars.clear()
        self.assertEqual(len(found.bars), many)
        self.assertGreater(many, 1)

    def test_lists_that_are_changed_behind(self):
        pairs = [list(pair) for pair in PRICED]
        found = Cheapest(ASKED, pairs)
        pairs[3][1] = 99
        pairs.clear()
        self.assertEqual((found.price, len(found.lot)), (3, 2))


class Parting(ErrorCase):
    def test_by_the_words(self):
        chance = random.Random(61)
        for _ in range(200):
            question = some_question(chance, AB)
            marks = [some_mark(chance, AB) for _ in range(chance.randint(0, 9))]
            one, two = [some_history(chance, question, Timing(), chance.randint(1, 3)) for _ in range(2)]
            wanted = []
            for index, mark in enumerate(marks):
                shown = [Lot([mark]).readings(history) for history in (one, two)]
                if len(one) != len(two) or shown[0] != shown[1]:
                    wanted.append(index)
            self.assertEqual(parting(Clash(one, two), marks), tuple(wanted))
            self.assertEqual(parting(marks=tuple(marks), clash=Clash(one, two, 3)), tuple(wanted))

    def test_unequal_numbers_of_looks(self):
        clash = Clash(History.read("f |"), History.read("f | |"))
        self.assertEqual(parting(clash, MARKS + MARKS), tuple(range(10)))
        self.assertEqual(parting(clash, []), ())
        self.assertEqual(parting(Clash(History(), History()), MARKS), ())

    def test_errors(self):
        clash = Clash(History.read("f | q r |"), History.read("z | f |"))
        other = Mark(ring(2, None, ("z", "f")), "kept")
        for odd in [*ODD_VALUES, BACK, (MARKS[0], 1), Lot([])]:
            self.assert_error(BadMark, (1,), parting, clash, [MARKS[0], odd, odd])
        self.assert_error(NoDeed, (1,), parting, clash, [MARKS[0], other])
        self.assert_error(NoDeed, (1,), parting, clash, [other, MARKS[0]])
        self.assert_error(NoDeed, (0,), parting, Clash(History.read("f |"), clash.second), [MARKS[0]])
        self.assert_error(NoDeed, (1,), parting, Clash(History.read("f r |"), History()), [other])
        self.assertEqual(parting(Clash(History.read("f |"), History.read("r |")), MARKS[:2]), (0, 1))


class Barred(ErrorCase):
    def judged(self, question, priced, price, bars, timing):
        """Whether the bars show it, by the words of [62]."""
        marks = [mark for mark, _ in priced]
        if not all(isinstance(bar, Clash) and bar.shows(question, Lot([]), timing) for bar in bars):
            return False
        return all(any(not set(choice) & set(parting(bar, marks)) for bar in bars) for choice in subsets(len(priced))
                   if sum(priced[k][1] for k in choice) < price)

    def test_spoiled_bars(self):
        chance = random.Random(62)
        seen = {True: 0, False: 0}
        for _ in range(150):
            question, marks, timing = some_case(chance, 4)
            priced = [(mark, chance.randint(1, 4)) for mark in marks]
            found = Cheapest(question, priced, timing)
            bars, price = found.bars, found.price or chance.randint(-2, 3)
            for _ in range(chance.randint(0, 2)):
                way, at = chance.randint(0, 6), chance.randrange(len(bars) + 1)
                if way == 0:
                    bars[at:at + 1] = []
                elif way == 1:
                    price += chance.choice([-1, 1, 2])
                elif way == 2 and at < len(bars):
                    bars[at] = Clash(bars[at].second, bars[at].first, bars[at].state)
                elif way == 3 and at < len(bars):
                    bars[at] = Clash(bars[at].first + History([()]), bars[at].second, bars[at].state)
                elif way == 4 and at < len(bars):
                    more = History([chance.choice([question.deeds[:1], ("z",)])])
                    bars[at] = Clash(more + bars[at].first, more + bars[at].second, bars[at].state)
                elif way == 5:
                    bars.insert(at, chance.choice([None, 0, "x", (History(), History()), History(), MARKS[0]]))
                elif at < len(bars):
                    bars[at] = Clash(bars[at].first, bars[at].second, chance.choice([None, 0, 9]))
            wanted = self.judged(question, priced, price, bars, timing)
            self.assertIs(barred(question, priced, price, bars, timing), wanted)
            self.assertIs(barred(bars=bars, price=price, timing=timing, priced=priced, question=question), wanted)
            seen[wanted] += 1
        self.assertGreater(min(seen.values()), 25)

    def test_prices_that_are_no_price(self):
        for price in (0, -1, -10 ** 30):
            self.assertIs(barred(ASKED, PRICED, price, []), True)
            self.assertIs(barred(ASKED, PRICED, price, [None]), False)
        self.assertIs(barred(ASKED, PRICED, 10 ** 40, BARS), False)
        self.assertIs(barred(ASKED, [], 1, BARS), True)


class Prices(ErrorCase):
    def test_one_after_the_other(self):
        chance = random.Random(63)
        seen = set()
        for _ in range(40):
            question, marks, _ = some_case(chance, 5)
            priced, upto = [(mark, chance.randint(1, 5)) for mark in marks], chance.choice([1, 2, 3, 12])
            wanted = [Cheapest(question, priced, Timing(most)).price for most in range(1, upto + 1)]
            self.assertEqual(prices(upto=upto, priced=priced, question=question), wanted)
            seen |= set(wanted)
        self.assertGreater(len(seen), 4)

    def test_numbers(self):
        for upto in [0, 13, True, None, -1, "3", 2.0, (2,)]:
            self.assert_error(BadNumber, (upto,), prices, ASKED, [None], upto)


class Errors(ErrorCase):
    """The same errors in the same order, from all that take a list of marks."""

    def calls(self, question, marks, price=None, timing=None):
        """The calls for these marks, and how many of them take prices."""
        pairs = [(mark, 1) for mark in marks]
        made = [lambda: Cheapest(question, pairs, timing), lambda: barred(question, pairs, 1, [None], timing)]
        if timing is None:
            made.append(lambda: prices(question, pairs, 12))
        return made + [lambda: choices(question, marks, timing)]

    def assert_all(self, kind, fields, calls):
        for call in calls:
            self.assert_error(kind, fields, call)

    def test_no_marks(self):
        for odd in [*ODD_VALUES, BACK, "mark", (MARKS[0],)]:
            for at in (0, 3, 8):
                marks = [Mark(ring(60, None, ("q",)), "kept")] * 9
                marks[at] = odd
                self.assert_all(BadMark, (at,), self.calls(ASKED, marks, timing=Timing(None, ("z",))))

    def test_no_pairs(self):
        for odd in [None, MARKS[0], (MARKS[0],), (MARKS[0], 1, 1), {MARKS[0].rule: 1}, "ab", (1, MARKS[0]), [], 0]:
            for call in (Cheapest, lambda *args: barred(*args, 3, [])):
                self.assert_error(BadMark, (1,), call, ASKED, [(MARKS[0], 0), odd, odd])
            self.assert_error(BadMark, (0,), prices, ASKED, [odd, (MARKS[0], 0)], 3)

    def test_no_prices(self):
        for odd in [True, 0, -1, 10 ** 30 + 1, None, "1", 1.0, (1,), [1]]:
            pairs = [[mark, 1] for mark in MARKS * 2]
            pairs[2][1] = pairs[7][1] = odd
            self.assert_error(BadPrice, (2,), Cheapest, ASKED, pairs, Timing(None, ("z",)))
            self.assert_error(BadPrice, (2,), barred, ASKED, pairs, 3, [], Timing(None, ("z",)))
            self.assert_error(BadPrice, (2,), prices, ASKED, pairs, 12)

    def test_their_order(self):
        big, wide = Mark(ring(60, None, FR), "kept"), Mark(ring(7, None, FR), "cleared")
        other = Mark(ring(2, None, ("r", "f")), "kept")
        owed = Timing(None, ("f", "z"))
        self.assert_all(TooMany, ("marks", 7, 6), self.calls(ASKED, [other, big, wide, *[wide] * 4], timing=owed))
        self.assert_all(TooMany, ("marks", 9, 6), self.calls(ASKED, [big] * 9))
        self.assert_all(OtherDeeds, (FR, ("r", "f")), self.calls(ASKED, [big, wide, other], timing=owed))
        third = Mark(ring(2, None, X), "kept")
        self.assert_all(OtherDeeds, (FR, ("r", "f")), self.calls(ASKED, [other, big, third]))
        self.assert_all(OtherDeeds, (FR, X), self.calls(ASKED, [big, third, other]))
        self.assert_all(NoDeed, (1,), self.calls(ASKED, [big, wide], timing=owed))
        self.assert_all(TooMany, PLACES, self.calls(ASKED, [big, wide]))

    def test_too_many_places_also_if_fewer_marks_would_do(self):
        marks = [Mark(BACK, "kept"), Mark(ring(7, None, FR), "kept"), Mark(ring(4, None, FR), "kept")]
        self.assertEqual(choices(ASKED, marks[:2]), [(0,)])
        self.assert_all(TooMany, PLACES, self.calls(ASKED, marks))
        for kind in KINDS:
            wide = [Mark(ring(12, None, X), "kept"), Mark(ring(5, None, X), "kept")]
            question = Question(Machine(X, [[0]], ["t"]), kind)
            self.assertEqual(choices(question, wide), [()])
            self.assert_all(TooMany, PLACES, self.calls(question, [*wide, Mark(ring(7, None, X), "kept")]))


class Big(ErrorCase):
    def test_six_marks_and_many_places(self):
        chance = random.Random(64)
        for _ in range(4):
            machine = some_table(chance, AB, 4, ("no", "yes"))
            marks = [Mark(Machine(AB, machine.rows, [chance.choice("xy") for _ in machine.rows]), "kept")
                     for _ in range(6)]
            question = Question(machine, chance.choice(KINDS))
            found = choices(question, marks)
            self.assertEqual(found, Choices.wanted(self, question, marks, None))
            self.assertEqual(len(prices(question, [(mark, 2) for mark in marks], 12)), 12)


if __name__ == "__main__":
    unittest.main()
