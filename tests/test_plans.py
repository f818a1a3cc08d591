"""Plans, what they tell, and runs: promises [69] to [71]."""

import random
import unittest

from betweenlooks.errors import BadPick, BadRead, BadSame, BadWant, NoDeed, NoRead, TooMany, Uneven
from betweenlooks.machines import Machine
from betweenlooks.marks import Lot, Mark
from betweenlooks.plans import Plan, Reading, play
from helpers import ODD_VALUES, ErrorCase, ring
from players import READ, played, some_lot, some_plan, told_row

LOW = Mark(Machine(("a",), [[1], [0]], ["0", "1"]), "kept")
HIGH = Mark(Machine(("a",), [[1], [2], [3], [0]], ["0", "0", "1", "1"]), "kept")
DIGITS = Lot([LOW, HIGH])


def described(reads, picks, same, wants):
    """The error that a plan of these parts raises by the words of [69], or None."""
    def is_read(value):
        return value.__class__ is int and 0 <= value < len(reads)
    if len(picks) > 4:
        return TooMany, ("marks", len(picks), 4)
    if len(reads) > 8:
        return TooMany, ("reads", len(reads), 8)
    if not picks:
        return NoRead, (0,)
    for index, mark in enumerate(reads):
        if mark.__class__ is not int or not 0 <= mark < len(picks):
            return BadRead, (index,)
    for index, pick in enumerate(picks):
        if not is_read(pick) or reads[pick] != index:
            return BadPick, (index,)
    for index, pair in enumerate(same):
        if pair.__class__ not in (list, tuple) or len(pair) != 2 or not all(map(is_read, pair)):
            return BadSame, (index,)
        i, j = pair
        if i >= j or reads[i] != reads[j] or (i, j) in [tuple(earlier) for earlier in same[:index]]:
            return BadSame, (index,)
    for index, want in enumerate(wants):
        if want.__class__ not in (list, tuple) or len(want) != 2 or not is_read(want[0]):
            return BadWant, (index,)
        tells = want[1]
        if tells.__class__ not in (list, tuple) or not tells or len(tells) != len({str(tell) for tell in tells}):
            return BadWant, (index,)
        if not all(tell.__class__ is str and tell and set(tell) <= set("abcdefghijklmnopqrstuvwxyz0123456789/")
                   and len(tell) <= 60 for tell in tells):
            return BadWant, (index,)
    return None


def parts_of(plan):
    return (plan.reads, plan.picks, plan.same, plan.wants)


def as_lists(thing):
    return [as_lists(part) for part in thing] if isinstance(thing, tuple) else thing


class Parts(ErrorCase):
    def test_attributes(self):
        chance = random.Random(69)
        for _ in range(200):
            plan = some_plan(chance, chance.randint(1, 4), 8)
            lists = as_lists(parts_of(plan))
            copy = Plan(*lists)
            self.assertEqual(parts_of(copy), parts_of(plan))
            self.assertTrue(copy == plan and not copy != plan)
            for part in lists:
                for inner in part:
                    if isinstance(inner, list):
                        inner.clear()
                part.clear()
            self.assertEqual(parts_of(copy), parts_of(plan))
            self.assertEqual(len(plan), len(plan.reads))
            named = Plan(wants=plan.wants, same=plan.same, picks=plan.picks, reads=plan.reads)
            self.assertEqual(named, plan)
            for part in parts_of(plan):
                self.assertIsInstance(part, tuple)
            self.assertTrue(all(isinstance(pair, tuple) for pair in plan.same + plan.wants))
            self.assertTrue(all(isinstance(tells, tuple) for _, tells in plan.wants))

    def test_equality(self):
        made = [Plan((0, 0), (0,)), Plan((0, 0), (1,)), Plan((0,), (0,)), Plan((0, 0), (0,), [(0, 1)]),
                Plan((0, 0), (0,), (), [(0, ("x",))]), Plan((0, 0), (0,), (), [(0, ("x", "y"))]),
                Plan((0, 0), (0,), (), [(0, ("y", "x"))]), Plan((0, 1), (0, 1)), Plan((1, 0), (1, 0))]
        for i, one in enumerate(made):
            for j, other in enumerate(made):
                self.assertEqual(one == other, i == j)
        for other in [None, ((0, 0), (0,), (), ()), (0, 0), "plan"]:
            self.assertFalse(made[0] == other)

    def test_several_wants_for_one_read(self):
        plan = Plan((0, 0), (0,), (), [(1, ("x",)), (1, ("x", "y")), (1, ("x",))])
        self.assertEqual(plan.result(("z", "x")), ("z",))
        self.assertIsNone(plan.result(("x", "y")))

    def assert_first_error(self, parts):
        wanted = described(*parts)
        if wanted is None:
            return Plan(*parts) and False
        self.assert_error(wanted[0], wanted[1], Plan, *parts)
        return wanted[0].__name__

    def test_spoiled_parts(self):
        chance = random.Random(70)
        seen = {}
        for _ in range(3000):
            parts = as_lists(parts_of(some_plan(chance, chance.randint(1, 4), 6)))
            reads, picks, same, wants = parts
            for _ in range(chance.choice([1, 1, 2, 3])):
                way, odd = chance.randint(0, 10), chance.choice([*ODD_VALUES, -1, 9, "0", 4])
                if way == 0:
                    reads.insert(chance.randrange(len(reads) + 1), chance.choice([odd, 0, 4]))
                elif way == 1 and picks:
                    picks[chance.randrange(len(picks)):] = [chance.choice([odd, 0, 1])]
                elif way == 2:
                    same.insert(chance.randrange(len(same) + 1), chance.choice([odd, (0,), (0, 1), (1, 0), [0, odd]]))
                elif way == 3 and same:
                    same.append(chance.choice([chance.choice(same), chance.choice(same)[::-1]])
                                if isinstance(same[-1], (list, tuple)) and isinstance(same[0], (list, tuple)) else odd)
                elif way in (4, 5):
                    wants.insert(chance.randrange(len(wants) + 1), chance.choice(
                        [odd, (0,), (odd, ("x",)), (0, odd), (0, ()), (0, ["x", "y", "x"]), (0, "xy"), (0, ("X",)),
                         (0, ("x", odd)), (0, ("x",), 1), (0, ("x" * 61,)), (99, ("x",))]))
                elif way == 6:
                    reads += [0] * chance.randint(1, 6)
                elif way == 7:
                    picks += [0] * chance.randint(1, 4)
                elif way == 8 and chance.random() < 0.3:
                    picks.clear()
            try:
                kind = self.assert_first_error(parts)
            except (TypeError, AttributeError) as error:
                self.fail(f"{parts}: {error}")
            seen[kind] = seen.get(kind, 0) + 1
        self.assertEqual(set(seen), {False, "TooMany", "NoRead", "BadRead", "BadPick", "BadSame", "BadWant"})
        self.assertGreater(min(seen.values()), 20)

    def test_the_order_of_the_errors(self):
        bad = ("reads", "?", 0)
        self.assert_error(TooMany, ("marks", 5, 4), Plan, [bad] * 9, [bad] * 5, [bad], [bad])
        self.assert_error(TooMany, ("reads", 9, 8), Plan, [bad] * 9, [], [bad], [bad])
        self.assert_error(NoRead, (0,), Plan, [bad], [], [bad], [bad])
        self.assert_error(BadRead, (1,), Plan, [0, bad], [bad], [bad], [bad])
        self.assert_error(BadPick, (0,), Plan, [0, 0], [bad], [bad], [bad])
        self.assert_error(BadSame, (1,), Plan, [0, 0], [1], [(0, 1), bad], [bad])
        self.assert_error(BadWant, (1,), Plan, [0, 0], [1], [(0, 1)], [(0, ["x"]), bad])
        self.assert_error(BadPick, (1,), Plan, [0, 1], [0, 0])
        self.assertEqual(len(Plan([0, 1, 2, 3] * 2, [4, 5, 6, 7])), 8)


class Results(ErrorCase):
    def test_by_the_words(self):
        chance = random.Random(71)
        nones = 0
        for _ in range(400):
            plan = some_plan(chance, chance.randint(1, 3), 6)
            shown = [chance.choice("01") for _ in plan.reads]
            wanted = told_row(plan, shown)
            self.assertEqual(plan.result(shown), wanted)
            self.assertEqual(plan.result(shown=tuple(shown)), wanted)
            nones += wanted is None
            for other in (shown[1:], shown + ["0"], []):
                self.assert_error(Uneven, (len(other), len(plan)), plan.result, other)
        self.assertGreater(nones, 100)

    def test_strictest(self):
        self.assertEqual(parts_of(Plan.strictest((0, 1, 0))), ((0, 1, 0), (0, 1), ((0, 2),), ()))
        self.assertEqual(parts_of(Plan.strictest(reads=[1, 0, 1, 1, 0])),
                         ((1, 0, 1, 1, 0), (1, 0), ((0, 2), (1, 4), (2, 3)), ()))
        chance = random.Random(72)
        for _ in range(200):
            many = chance.randint(1, 4)
            reads = list(range(many)) + [chance.randrange(many) for _ in range(chance.randint(0, 4))]
            chance.shuffle(reads)
            plan = Plan.strictest(reads)
            pairs = [(i, reads.index(reads[i], i + 1)) for i in range(len(reads)) if reads[i] in reads[i + 1:]]
            self.assertEqual(parts_of(plan), (tuple(reads), tuple(map(reads.index, range(many))), tuple(pairs), ()))
            shown = [chance.choice("01") for _ in reads]
            agree = all(shown[i] == shown[j] for i in range(len(reads)) for j in range(i) if reads[i] == reads[j])
            self.assertEqual(plan.result(shown) is not None, agree)

    def test_strictest_errors(self):
        for odd in [*ODD_VALUES, -1, "0", 1.5]:
            self.assert_error(BadRead, (2,), Plan.strictest, [5, 7, odd, odd] + [0] * 9)
        self.assert_error(NoRead, (0,), Plan.strictest, ())
        self.assert_error(NoRead, (0,), Plan.strictest, [1, 2, 3])
        self.assert_error(NoRead, (1,), Plan.strictest, [0, 2] * 9)
        self.assert_error(NoRead, (1,), Plan.strictest, [0, 10 ** 30])
        self.assert_error(NoRead, (4,), Plan.strictest, [0, 1, 2, 3, 5, 6])
        self.assert_error(TooMany, ("marks", 5, 4), Plan.strictest, [0, 1, 2, 3, 4] * 2)
        self.assert_error(TooMany, ("reads", 9, 8), Plan.strictest, [0, 1, 2] * 3)


class Runs(ErrorCase):
    def assert_played(self, plan, lot, run):
        found = play(plan, lot, run)
        wanted = played(plan, lot, run)
        told = [(look.shown, look.row, look.stood, look.between, look.is_torn) for look in found]
        self.assertEqual(told, wanted)
        for look in found:
            self.assertIsInstance(look, Reading)
            self.assertEqual((look.shown.__class__, look.stood.__class__), (tuple, tuple))
            self.assertIs(look.is_torn.__class__, bool)
        return found

    def test_any_runs(self):
        chance = random.Random(73)
        torn = failed = 0
        for _ in range(400):
            deeds, marks = ("a", "b")[:chance.randint(1, 2)], chance.randint(1, 4)
            lot, plan = some_lot(chance, deeds, marks, 6), some_plan(chance, marks, chance.choice([marks, 8]))
            run = chance.choices([READ, READ, *deeds], k=chance.randint(0, 30))
            looks = self.assert_played(plan, lot, chance.choice([list, tuple])(run))
            self.assertEqual(len(looks), run.count(READ) // len(plan))
            torn += any(look.is_torn for look in looks)
            failed += any(look.row is None for look in looks)
        self.assertGreater(torn, 20)
        self.assertGreater(failed, 50)

    def test_by_hand(self):
        plan = Plan((0, 1), (0, 1))
        first, second = play(run=("a", "?", "a", "?", "a", "a", "?", "?", "?"), lot=DIGITS, plan=plan)
        self.assertEqual(first.shown, ("1", "1"))
        self.assertEqual((first.row, first.stood, first.between, first.is_torn),
                         (("1", "1"), (("1", "0"), ("0", "1")), 1, True))
        self.assertEqual((second.shown, second.stood, second.between, second.is_torn),
                         (("0", "0"), (("0", "0"),), 0, False))
        self.assertEqual(play(plan, DIGITS, ()), [])
        self.assertEqual(play(plan, DIGITS, ("?", "a")), [])

    def test_a_cleared_mark_is_cleared_by_its_read(self):
        lot = Lot([Mark(Machine(("a",), [[1], [1]], ["0", "1"]), "cleared")])
        look = play(Plan((0, 0), (1,)), lot, ("a", "?", "?"))[0]
        self.assertEqual((look.shown, look.row, look.stood), (("1", "0"), ("0",), (("1",), ("0",))))
        look = play(Plan((0, 0, 0), (2,)), lot, ("?", "a", "?", "a", "?"))[0]
        self.assertEqual((look.shown, look.stood, look.between), (("0", "1", "1"), (("0",), ("1",)), 2))

    def test_what_stands_behind_the_last_read_does_not_count(self):
        lot = Lot([Mark(Machine(("a",), [[1], [1]], ["0", "1"]), rule) for rule in ("cleared", "kept")])
        look = play(Plan((1, 0), (1, 0)), lot, ("a", "?", "?"))[0]
        self.assertEqual((look.row, look.stood), (("1", "1"), (("1", "1"),)))

    def test_errors(self):
        plan = Plan((0, 1), (0, 1))
        self.assert_error(Uneven, (1, 2), play, plan, Lot([LOW]), ("z",))
        self.assert_error(Uneven, (0, 2), play, plan, Lot([]), ("z",))
        self.assert_error(Uneven, (3, 2), play, plan, Lot([LOW, HIGH, LOW]), ("z",))
        for odd in [*ODD_VALUES, "z", "??", "A"]:
            self.assert_error(NoDeed, (2,), play, plan, DIGITS, ("a", "?", odd, "?", odd))
        self.assertEqual(len(play(Plan((0,), (0,)), Lot([Mark(ring(60), "kept")]), ["?", "a"] * 100)), 100)


if __name__ == "__main__":
    unittest.main()
