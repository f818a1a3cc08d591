"""Routines: promises [41] and [42]."""

import random
import unittest

from betweenlooks.clashes import suffices
from betweenlooks.errors import BadKind, BadMove, BadWord, Clashes, NoDeed, NoMove, OtherDeeds, TooMany
from betweenlooks.histories import History
from betweenlooks.machines import Machine
from betweenlooks.marks import Lot, Mark
from betweenlooks.questions import Question
from betweenlooks.timings import Timing
from betweenlooks.watchers import Routine, routine_of
from helpers import BACK, ODD_VALUES, ErrorCase, ring
from lookers import (
    KINDS, LATE, ends, fewest_looks, knowledge, looked, reading, some_close_lot, some_history, some_lot, some_question,
    some_table, some_timing,
)

AB, X = ("a", "b"), ("x",)
HAPPENED = Question(Machine(X, [[1], [1]], ["no", "yes"]), "stretch")
VERSION = Lot([Mark(Machine(X, [[1], [2], [0]], ["v0", "v1", "v2"]), "kept")])
READINGS = [("v0",), ("v1",), ("v2",)]
LAST = {(f"v{k}", (f"v{j}",)): (f"v{j}", "no" if k == j else "yes") for k in range(3) for j in range(3)}


def some_case(chance):
    question = some_question(chance, AB, chance.choice(KINDS[:3]))
    lot = chance.choice([some_lot, lambda c, _: some_close_lot(c, question)])(chance, AB)
    return question, lot, chance.choice([None, some_timing(chance, AB)])


def fewest_looks_wrong(routine, question, lot, timing):
    """The number of looks of the shortest history with which the routine is wrong, or None."""
    timing, late = timing or Timing(), question.kind in LATE
    layer, met, looks, moves = {((lot.begin, 0), routine.begin)}, set(), 0, routine.moves
    while layer:
        looks += 1
        later = set()
        for place, memory in layer:
            first = looks == 1 and late
            for end in ends(question, lot, {place}, Timing() if first else timing):
                state = 0 if first else end[1]
                move = moves.get((memory, reading(lot, end)))
                if move is None or move[1] != question.core.tells[state]:
                    return looks
                behind = 0 if question.kind == "stretch" else state
                later.add(((looked(lot, end), behind), move[0]))
        layer = later - met
        met |= later
    return None


class Tables(ErrorCase):
    def test_the_last_value_is_enough(self):
        """A routine that remembers the last value of the version number modulo 3."""
        routine = Routine("v0", LAST)
        self.assertIsNone(routine.wrong(HAPPENED, VERSION, Timing(2)))
        self.assertEqual(routine.wrong(HAPPENED, VERSION, Timing(3)), History.read("x x x |"))
        self.assertEqual(routine.wrong(HAPPENED, VERSION), History.read("x x x |"))
        self.assertEqual(routine.follow([("v0",), ["v2"], ("v2",)]), ["no", "yes", "no"])

    def test_attributes_and_copies(self):
        value = ["m2", "yes"]
        table = {("m", ("x", "y")): value, ("m", ()): ("m", "a/b")}
        routine = Routine(moves=table, begin="m")
        value[0] = "other"
        table.clear()
        wanted = {("m", ("x", "y")): ("m2", "yes"), ("m", ()): ("m", "a/b")}
        self.assertEqual((routine.begin, routine.moves), ("m", wanted))
        self.assertEqual(list(routine.moves), list(wanted))
        self.assertEqual([move.__class__ for move in routine.moves.values()], [tuple, tuple])
        routine.moves.clear()
        routine.moves[("m", ())] = ("q", "no")
        self.assertEqual(routine.moves, wanted)
        self.assertIsNot(routine.moves, routine.moves)
        self.assertEqual(routine.follow([(), ("x", "y")]), ["a/b", "yes"])
        self.assertEqual(Routine("m", {}).moves, {})

    def test_wrong_memories_at_the_beginning(self):
        for begin in ODD_VALUES:
            self.assert_error(BadWord, (begin,), Routine, begin, {1: 2})

    def test_wrong_keys_and_values(self):
        keys = [0, "m", ("m",), ("m", "x"), ("m", ("x",), "m"), ("M", ("x",)), ("m", ("X",)), ("m", (0,)), ("m", None),
                ("m", ("x", "")), ("a" * 13, ()), ("m", ("x" * 61,)), (("m",), ()), frozenset(["m"]), None,
                ("m", frozenset("x")), ("1m", ())]
        values = [None, "mx", ("m",), ("m", "x", "y"), ("M", "x"), ("m", "X"), ("m", ""), {"m": "x"}, ["m", 1],
                  (1, "x"), ["m"], {"m", "x"}]
        good = {("m", ()): ["m", "x"], ("m", ("x", "a/b")): ("q", "1")}
        for key in keys:
            for extra in ({}, {1: 2}):
                self.assert_error(BadMove, (key,), Routine, "m", {**good, key: ("m", "x"), **extra})
        for value in values:
            self.assert_error(BadMove, (("n", ("x",)),), Routine, "m", {**good, ("n", ("x",)): value, 7: None})

    def test_the_first_wrong_one_is_told(self):
        chance = random.Random(41)
        for _ in range(80):
            items = [(("m", (f"x{k}",)), ["m", "x"]) for k in range(6)]
            wrong = sorted(chance.sample(range(6), 2))
            for at in wrong:
                key, value = items[at]
                items[at] = chance.choice([(("m", f"x{at}"), value), (("M", (f"x{at}",)), value), (key, ["m"]),
                                           (key, 0), (at, value)])
            self.assert_error(BadMove, (items[wrong[0]][0],), Routine, "m", dict(items))

    def test_follow(self):
        chance = random.Random(42)
        for _ in range(100):
            words, shown = ["m", "n", "o"], [("x",), ("y",)]
            moves = {(word, tells): (chance.choice(words), chance.choice(["0", "1"]))
                     for word in words for tells in shown if chance.random() < 0.8}
            routine = Routine(chance.choice(words), moves)
            readings = [chance.choice(shown) for _ in range(chance.randint(0, 6))]
            memory, answers, missing = routine.begin, [], None
            for index, tells in enumerate(readings):
                if (memory, tells) not in moves:
                    missing = index
                    break
                memory, answer = moves[(memory, tells)]
                answers.append(answer)
            if missing is None:
                self.assertEqual(routine.follow(readings), answers)
                self.assertEqual(routine.follow([list(tells) for tells in readings]), answers)
            else:
                self.assert_error(NoMove, (missing,), routine.follow, readings)


class Wrong(ErrorCase):
    def assert_wrong(self, routine, question, lot, timing):
        """What `wrong` returns is right; returns the number of looks."""
        looks = fewest_looks_wrong(routine, question, lot, timing)
        found = routine.wrong(question, lot, timing)
        if looks is None:
            self.assertIsNone(found)
            return None
        self.assertEqual(len(found), looks)
        self.assertTrue((timing or Timing()).kept(found, question.kind))
        readings, due = lot.readings(found), question.due(found)
        self.assertEqual(routine.follow(readings[:-1]), due[:-1])
        try:
            self.assertNotEqual(routine.follow(readings)[-1], due[-1])
        except NoMove as error:
            self.assertEqual(error.index, looks - 1)
        return looks

    def test_spoiled_routines(self):
        chance = random.Random(43)
        seen = {}
        for _ in range(250):
            question, lot, timing = some_case(chance)
            if not suffices(question, lot, timing):
                continue
            routine = routine_of(question, lot, timing)
            moves = routine.moves
            for key in chance.sample(sorted(moves), min(len(moves), chance.randint(0, 2))):
                word, answer = moves.pop(key)
                if chance.random() < 0.7:
                    other = chance.choice([memory for memory, _ in moves.values()] or [word])
                    moves[key] = chance.choice([(word, "no"), (word, "yes"), (other, answer)])
            looks = self.assert_wrong(Routine(routine.begin, moves), question, lot, timing)
            other = chance.choice([None, some_timing(chance, AB)])
            self.assert_wrong(routine, question, lot, other)
            seen[looks] = seen.get(looks, 0) + 1
        self.assertGreater(seen[None], 20)
        self.assertGreater(len(seen), 3)

    def test_any_routines(self):
        chance = random.Random(44)
        for _ in range(120):
            question, lot, timing = some_case(chance)
            words = ["m", "n"]
            shown = [reading(lot, place) for place in ends(question, lot, {(lot.begin, 0)}, Timing())]
            moves = {(word, tells): (chance.choice(words), chance.choice(["no", "no", "yes"]))
                     for word in words for tells in shown if chance.random() < 0.9}
            self.assert_wrong(Routine("m", moves), question, lot, timing)

    def test_errors(self):
        routine = Routine("v0", LAST)
        big = Question(ring(60, [f"x{k}" for k in range(60)], X), "taken")
        wide, other = Lot([Mark(ring(2, None, X), "kept")]), Lot([Mark(ring(2, None, ("y",)), "kept")])
        for call in (routine.wrong, routine_of):
            self.assert_error(OtherDeeds, (X, ("y",)), call, big, other, Timing(None, ("z",)))
            self.assert_error(NoDeed, (0,), call, big, wide, Timing(None, ("z",)))
            self.assert_error(TooMany, ("places", 61, 60), call, big, wide)
            self.assert_error(BadKind, ("taken",), call, big, Lot([]), Timing(3))

    def test_about_sixty_places(self):
        for values, many in [(12, 60), (13, 65)]:
            question, lot = Question(ring(5, ["t"] * 5, X)), Lot([Mark(ring(values, None, X), "kept")])
            wide = Question(ring(5, [f"t{k}" for k in range(5)], X), "joined")
            self.assertIsNone(routine_of(question, lot).wrong(question, lot))
            for call in (Routine("v0", LAST).wrong, routine_of):
                if many > 60:
                    self.assert_error(TooMany, ("places", 61, 60), call, wide, lot)
            if many == 60:
                self.assertEqual(Routine("v0", LAST).wrong(wide, lot), History([()]))
                self.assertRaises(Clashes, routine_of, wide, lot)


class Made(ErrorCase):
    def test_routines_that_are_not_wrong(self):
        chance = random.Random(45)
        seen = {}
        for _ in range(250):
            question, lot, timing = some_case(chance)
            looks = fewest_looks(question, lot, timing)
            seen[looks is None] = seen.get(looks is None, 0) + 1
            if looks is not None:
                with self.assertRaises(Clashes) as caught:
                    routine_of(question, lot, timing)
                self.assertTrue(caught.exception.clash.shows(question, lot, timing))
                self.assertEqual(caught.exception.clash.looks, looks)
                continue
            routine = routine_of(question=question, lot=lot, timing=timing)
            self.assertIsNone(routine.wrong(question, lot, timing))
            self.assertIsNone(fewest_looks_wrong(routine, question, lot, timing))
            for _ in range(3):
                history = some_history(chance, question, timing or Timing(), 5)
                self.assertEqual(routine.follow(lot.readings(history)), question.due(history))
        self.assertGreater(min(seen.values()), 50)

    def test_not_for_taken_questions(self):
        for lot in (Lot([]), Lot([Mark(BACK, "kept")])):
            self.assert_error(BadKind, ("taken",), routine_of, Question(BACK, "taken"), lot)

    def test_about_three_hundred_memories(self):
        """The seeds were searched for: the watcher may know so many different sets of places."""
        for seed, many in [(7000124, 300), (5000258, 301), (6000076, 299), (1000650, 302)]:
            chance = random.Random(seed)
            lot = Lot([Mark(some_table(chance, AB, 30, ("x", "y")), "kept")])
            question = Question(Machine(AB, [[0, 0]], ["t"]), chance.choice(KINDS[:2]))
            self.assertEqual(len(knowledge(question, lot, Timing(1))), many)
            if many > 300:
                self.assert_error(TooMany, ("memories", 301, 300), routine_of, question, lot, Timing(1))
            else:
                routine = routine_of(question, lot, Timing(1))
                self.assertIsNone(routine.wrong(question, lot, Timing(1)))

    def test_clashes_come_ahead_of_too_many_memories(self):
        chance = random.Random(5000258)
        lot = Lot([Mark(some_table(chance, AB, 30, ("x", "y")), "kept")])
        question = Question(Machine(AB, [[1, 0], [1, 0]], ["no", "yes"]))
        self.assertRaises(Clashes, routine_of, question, lot, Timing(1))


if __name__ == "__main__":
    unittest.main()
