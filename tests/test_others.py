"""Looks of others: promises [64] to [67] and the example of [68]."""

import itertools
import random
import unittest

from betweenlooks.clashes import clash, suffices
from betweenlooks.errors import BadDeeds, BadIndex, NoDeed, OtherDeeds, TooMany, Uneven
from betweenlooks.facts import Turn
from betweenlooks.histories import History
from betweenlooks.least import least
from betweenlooks.machines import Machine
from betweenlooks.marks import Lot, Mark
from betweenlooks.others import clash_among, exposed, fewest_own, idle, unserved
from betweenlooks.questions import Question
from betweenlooks.timings import Timing
from helpers import BACK, ODD_VALUES, ErrorCase, ring
from lookers import KINDS, RULES, fewest_looks, showing, some_mark, some_question, some_table

AB, X, FR, SIX = ("a", "b"), ("x",), ("f", "r"), ("a", "b", "c", "d", "e", "f")
PLACES = ("places", 61, 60)


def with_deed(machine, deed, to):
    """The machine with one more deed, which leads each state where `to` tells."""
    rows = [[*row, to(state)] for state, row in enumerate(machine.rows)]
    return Machine((*machine.deeds, deed), rows, machine.tells, machine.start)


def looked_at(mark, deed, is_read):
    """The mark with one more deed, a look of somebody who reads it or not."""
    clears = is_read and mark.rule == "cleared"
    return Mark(with_deed(mark.machine, deed, lambda state: mark.machine.start if clears else state), mark.rule)


def among(question, lot, deed, own):
    """The question and the lot in which looks of others are a deed."""
    asked = Question(with_deed(question.machine, deed, lambda state: state), question.kind)
    return asked, Lot([looked_at(mark, deed, index not in own) for index, mark in enumerate(lot.marks)])


def some_case(chance, marks=3):
    question = some_question(chance, chance.choice([X, AB]))
    lot = [some_mark(chance, question.deeds, 2) for _ in range(chance.randint(0, marks))]
    if lot and chance.random() < 0.7:
        lot[-1] = Mark(showing(question.machine), chance.choice(RULES))
    timing = chance.choice([None, None, Timing(chance.randint(0, 3)), Timing(2, ("q",)), Timing(None, ("q",))])
    return question, Lot(lot), timing


class Deeds(ErrorCase):
    def test_one_to_six_deeds(self):
        chance = random.Random(64)
        for many in range(1, 7):
            for _ in range(20):
                machine = some_table(chance, SIX[:many], chance.randint(1, 6), None)
                machine = Machine(machine.deeds, machine.rows, machine.tells, chance.randrange(len(machine)))
                kept, cleared = Mark(machine, "kept"), Mark(machine, "cleared")
                rows = machine.rows
                if many == 6:
                    for call, thing in ((idle, machine), (exposed, kept), (exposed, cleared)):
                        self.assert_error(TooMany, ("deeds", 7, 6), call, thing, "look")
                    continue
                self.assertEqual(idle(deed="look", machine=machine), with_deed(machine, "look", lambda state: state))
                self.assertEqual(exposed(deed="look", mark=kept), looked_at(kept, "look", True))
                self.assertEqual(exposed(cleared, "look"), looked_at(cleared, "look", True))
                self.assertEqual(exposed(kept, "look").machine, idle(machine, "look"))
                self.assertEqual((machine.rows, machine.deeds, kept.machine), (rows, SIX[:many], machine))

    def test_values_that_are_no_new_deed(self):
        for many in range(1, 7):
            machine = ring(3, None, SIX[:many])
            for odd in [*ODD_VALUES, *SIX[:many], "1a", "a" * 13, "look "]:
                self.assert_error(BadDeeds, (many,), idle, machine, odd)
                for rule in RULES:
                    self.assert_error(BadDeeds, (many,), exposed, Mark(machine, rule), odd)


class Among(ErrorCase):
    def test_by_the_words(self):
        chance = random.Random(65)
        seen = {}
        for _ in range(250):
            question, lot, timing = some_case(chance)
            own = chance.sample(range(len(lot)), chance.randint(0, len(lot)))
            asked, marks = among(question, lot, "q", own)
            wanted = fewest_looks(asked, marks, timing)
            found = clash_among(question, lot, "q", own=own, timing=timing)
            self.assertEqual(found and found.looks, wanted)
            if found:
                self.assertTrue(found.shows(asked, marks, timing))
            seen[wanted] = seen.get(wanted, 0) + 1
        self.assertGreater(len(seen), 3)

    def test_by_name_only(self):
        lot = Lot([Mark(BACK, "kept")])
        self.assertRaises(TypeError, clash_among, Question(BACK), lot, "q", (0,))
        self.assertIsNone(clash_among(timing=None, own=[0], deed="q", lot=lot, question=Question(BACK)))

    def test_looks_of_others_count_as_deeds(self):
        """The answer changes with the second deed; under a limit of two, no look of somebody else fits in between."""
        asked = Question(Machine(X, [[1], [2], [2]], ["no", "no", "yes"]), "stretch")
        shown = Lot([Mark(showing(asked.machine), "cleared")])
        self.assertIsNone(clash_among(asked, shown, "q", timing=Timing(2)))
        found = clash_among(asked, shown, "q", timing=Timing(3))
        self.assertEqual(sorted([len(found.first.whole), len(found.second.whole)])[1], 3)
        self.assertIsNone(clash_among(asked, shown, "q", own=(0,), timing=Timing(3)))
        self.assertIsNone(clash_among(asked, shown, "q", timing=Timing(2, ("q",))))
        self.assertIsNotNone(clash_among(asked, shown, "q", timing=Timing(3, ("q",))))

    def test_errors_in_their_order(self):
        big, foreign = Mark(ring(60, None, SIX), "kept"), Mark(ring(2, None, AB), "kept")
        asked = Question(ring(2, ["no", "yes"], SIX))
        for odd in [*ODD_VALUES, 2, -1]:
            self.assert_error(BadIndex, (1,), clash_among, asked, Lot([foreign, foreign]), "a", own=(1, odd, odd))
        self.assert_error(BadIndex, (2,), clash_among, asked, Lot([foreign, foreign]), "a", own=[1, 0, 1])
        self.assert_error(BadIndex, (0,), clash_among, asked, Lot([]), "a", own=[0])
        self.assert_error(OtherDeeds, (SIX, AB), clash_among, asked, Lot([foreign]), "a", own=[0])
        for call in (clash_among, fewest_own):
            self.assert_error(OtherDeeds, (SIX, AB), call, asked, Lot([foreign]), "a", timing=Timing(1, ("z",)))
            self.assert_error(BadDeeds, (6,), call, asked, Lot([big]), "a", timing=Timing(1, ("z",)))
            self.assert_error(TooMany, ("deeds", 7, 6), call, asked, Lot([big]), "q", timing=Timing(1, ("z",)))
            small = Question(ring(2, ["no", "yes"], X))
            wide = Lot([Mark(ring(60, None, X), "kept"), Mark(ring(7, None, X), "cleared")])
            self.assert_error(NoDeed, (2,), call, small, wide, "q", timing=Timing(1, ("q", "x", "z")))
            self.assert_error(TooMany, PLACES, call, small, wide, "q", timing=Timing(1, ("q", "x")))


class Own(ErrorCase):
    def test_the_fewest(self):
        chance = random.Random(66)
        seen = {}
        for _ in range(150):
            question, lot, timing = some_case(chance, 4)
            wanted = None
            for size in range(len(lot), -1, -1):
                for own in sorted(itertools.combinations(range(len(lot)), size), reverse=True):
                    asked, marks = among(question, lot, "q", own)
                    if fewest_looks(asked, marks, timing) is None:
                        wanted = own
            found = fewest_own(question, lot, "q", timing)
            self.assertEqual(found, wanted)
            self.assertEqual(fewest_own(timing=timing, deed="q", lot=lot, question=question), wanted)
            key = None if wanted is None else len(wanted)
            seen[key] = seen.get(key, 0) + 1
        self.assertTrue({None, 0, 1} <= set(seen), seen)

    def test_kept_marks_are_nobodys_own(self):
        self.assertEqual(fewest_own(Question(BACK), Lot([Mark(BACK, "kept"), Mark(BACK, "cleared")]), "q"), ())

    def test_the_example(self):
        asked = Question(BACK)
        cleared = least(asked, "cleared").mark
        self.assertEqual(len(cleared.machine), 5)
        count = Mark(Turn(FR, 2).machine_for(FR), "kept")
        one = Lot([cleared])
        found = clash_among(asked, one, "look")
        shared, marks = among(asked, one, "look", ())
        self.assertTrue(found.shows(shared, marks))
        plain, hidden = History.read("|"), History.read("f r look |")
        self.assertEqual(marks.readings(plain), marks.readings(hidden))
        self.assertEqual([shared.due(history) for history in (plain, hidden)], [["no"], ["yes"]])
        self.assertEqual(fewest_own(asked, Lot([count, cleared]), "look"), (1,))

    def test_cleared_marks_that_are_all_exposed(self):
        """They suffice exactly if the answer never changes."""
        chance = random.Random(68)
        seen = {True: 0, False: 0}
        while min(seen.values()) < 40:
            question = some_question(chance, chance.choice([X, AB]))
            marks = [Mark(some_table(chance, question.deeds, 3, None), "cleared") for _ in range(chance.randint(0, 2))]
            still = len(question.core) == 1
            self.assertEqual(clash_among(question, Lot(marks), "q") is None, still)
            seen[still] += 1


class Several(ErrorCase):
    def parts(self, number, questions, reads, lot):
        """The question and the lot of a watcher, with a deed for each other one who clears something that it reads."""
        asked, marks = questions[number], [lot[index] for index in reads[number]]
        for other, indexes in enumerate(reads):
            both = [index for index in reads[number] if index in indexes and lot[index].rule == "cleared"]
            if other != number and both:
                deed = f"look{other}"
                asked = Question(with_deed(asked.machine, deed, lambda state: state), asked.kind)
                marks = [looked_at(mark, deed, index in both) for index, mark in zip(reads[number], marks)]
        return asked, Lot(marks)

    def test_by_the_words(self):
        chance = random.Random(67)
        seen = {}
        for _ in range(200):
            deeds = chance.choice([X, AB])
            many, marks = chance.choice([2, 2, 3]), chance.randint(1, 3)
            questions = [some_question(chance, deeds) for _ in range(many)]
            lot = [some_mark(chance, deeds, 2) for _ in range(marks)]
            for place in range(marks):
                if chance.random() < 0.5:
                    lot[place] = Mark(showing(chance.choice(questions).machine), chance.choice(RULES))
            lot, timing = Lot(lot), chance.choice([None, Timing(1), Timing(3), Timing(2, deeds)])
            reads = [chance.sample(range(marks), chance.randint(1, marks)) for _ in range(many)]
            wanted = []
            for number in range(many):
                asked, own = self.parts(number, questions, reads, lot)
                looks = fewest_looks(asked, own, timing)
                wanted += [] if looks is None else [(number, looks)]
            found = unserved(lot=lot, timing=timing, reads=reads, questions=questions)
            self.assertEqual([(number, shown.looks) for number, shown in found], wanted)
            self.assertEqual([pair.__class__ for pair in found], [tuple] * len(found))
            for number, shown in found:
                asked, own = self.parts(number, questions, reads, lot)
                self.assertTrue(shown.shows(asked, own, timing))
                seen[len(asked.deeds) - len(deeds)] = True
        self.assertEqual(set(seen), {0, 1, 2})

    def test_kept_marks_are_not_touched(self):
        asked, lot = Question(BACK), Lot([Mark(BACK, "kept")])
        self.assertEqual(unserved([asked, asked, asked], [[0], (0,), [0]], lot), [])
        shared = Lot([least(asked, "cleared").mark, Mark(BACK, "kept")])
        found = unserved([asked, asked, asked], ((0,), (1,), (0, 1)), shared)
        self.assertEqual([number for number, _ in found], [0])
        self.assertIn("look2", found[0][1].first.whole + found[0][1].second.whole)
        self.assertEqual(unserved([asked], ((0,),), shared), [])

    def test_a_deed_with_the_name_of_a_look(self):
        machine = ring(2, ["no", "yes"], ("look1", "x"))
        lot = Lot([Mark(machine, "cleared"), Mark(machine, "kept")])
        asked = Question(machine)
        self.assert_error(BadDeeds, (2,), unserved, [asked, asked], [[0], [0]], lot)
        self.assertEqual(unserved([asked, asked], [[1], [0]], lot), [])
        lot = Lot([Mark(ring(2, None, SIX), "cleared")])
        asked = Question(ring(2, None, SIX))
        self.assert_error(TooMany, ("deeds", 7, 6), unserved, [asked, asked], [[0], [0]], lot)
        five = Question(ring(2, None, SIX[:5]))
        lot = Lot([Mark(ring(2, None, SIX[:5]), "cleared")])
        self.assert_error(TooMany, ("deeds", 7, 6), unserved, [five] * 3, [[0]] * 3, lot)
        taken = Question(ring(2, None, ("a", "look1")))
        lot = Lot([Mark(ring(2, None, ("a", "look1")), "cleared")])
        self.assert_error(BadDeeds, (2,), unserved, [taken] * 3, [[0]] * 3, lot)
        behind = Question(ring(2, None, ("a", "look2")))
        lot = Lot([Mark(ring(2, None, ("a", "look2")), "cleared")])
        self.assert_error(BadDeeds, (3,), unserved, [behind] * 3, [[0]] * 3, lot)

    def test_errors_in_their_order(self):
        lot = Lot([Mark(BACK, "kept"), Mark(BACK, "cleared")])
        asked, other = Question(BACK), Question(ring(2, ["no", "yes"], ("r", "f")))
        self.assert_error(Uneven, (1, 2), unserved, [other, other], [[]], lot)
        self.assert_error(Uneven, (3, 2), unserved, [other, other], [[], [], []], lot)
        for odd in [[], [2], [-1], [True], [0, 0], [None], [1, 0, 1], ["0"], [(0,)], ()]:
            self.assert_error(BadIndex, (1,), unserved, [other, asked, asked], [[0], odd, []], lot)
        owed = Timing(None, ("z",))
        self.assert_error(OtherDeeds, (("r", "f"), FR), unserved, [other, asked], [[0], [0]], lot, owed)
        self.assert_error(NoDeed, (0,), unserved, [asked, other], [[0], [0]], lot, owed)
        self.assert_error(OtherDeeds, (("r", "f"), FR), unserved, [asked, other], [[0], [0]], lot)
        self.assertEqual(unserved([], [], lot), [])
        self.assertEqual([number for number, _ in unserved([asked, asked], [[1], [1]], lot, Timing(2, ("f",)))], [0, 1])
        self.assert_error(NoDeed, (0,), unserved, [asked, asked], [[1], [1]], lot, Timing(2, ("look0",)))
        wide = Lot([Mark(ring(60, None, FR), "kept"), Mark(ring(7, None, FR), "kept")])
        self.assert_error(TooMany, PLACES, unserved, [asked, other], [[0, 1], [0]], wide)

    def test_alone_a_watcher_has_its_own_clash(self):
        chance = random.Random(69)
        for kind in KINDS:
            for _ in range(20):
                question = some_question(chance, AB, kind)
                lot = Lot([some_mark(chance, AB) for _ in range(2)])
                found = unserved([question], [[1, 0]], lot)
                alone = clash(question, Lot(lot.marks[::-1]))
                self.assertEqual(found == [], alone is None)
                self.assertEqual(suffices(question, lot), alone is None)


if __name__ == "__main__":
    unittest.main()
