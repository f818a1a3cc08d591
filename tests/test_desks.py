"""Desks: promises [79] to [83], and the steps of the example in [88]."""

import random
import unittest

from betweenlooks.clashes import clash, rate, suffices
from betweenlooks.desks import Desk
from betweenlooks.errors import (
    BadDeeds, BadKind, BadName, BadNumber, BadRule, LooksError, NoDeed, NoSteps, Refused, TooMany,
)
from betweenlooks.facts import Both, Count, Done, Ends, Latest, Recent, Retold, Turn
from betweenlooks.marks import Lot, Mark
from betweenlooks.places import places_for
from betweenlooks.questions import Question
from betweenlooks.texts import fact_text
from betweenlooks.timings import Timing
from betweenlooks.words import is_word
from deskers import Model, draw_step, some_desk
from helpers import ODD_VALUES, ErrorCase
from lookers import KINDS, RULES, count_places

OS, SIX = ("open", "shut"), ("a", "b", "c", "d", "e", "f")
LAST = Latest(OS)
PLACES = ("places", 61, 60)


def example():
    desk = Desk(OS)
    desk.put("last", LAST, "cleared")
    desk.ask("door", LAST)
    desk.limit(3, ("shut",))
    desk.admit("knock")
    return desk


class Example(ErrorCase):
    def test_steps(self):
        desk = example()
        self.assertEqual((desk.deeds, desk.timing, desk.marks, desk.questions, len(desk)),
                         (("open", "shut", "knock"), Timing(3, ("shut",)), ("last",), ("door",), 4))
        self.assertEqual(desk.lot, Lot([Mark(LAST.machine_for(desk.deeds), "cleared")]))
        self.assertEqual(desk["door"], Question.of(LAST, desk.deeds))
        with self.assertRaises(Refused) as caught:
            desk.put("last", Done(("open",)), "cleared")
        self.assertEqual(caught.exception.name, "door")
        lot = Lot([Mark(Done(("open",)).machine_for(desk.deeds), "cleared")])
        self.assertTrue(caught.exception.clash.shows(desk["door"], lot, desk.timing))
        self.assertEqual((desk.rate(), desk.needs("last")), ((None, None), ("door",)))


class Beginnings(ErrorCase):
    def test_deeds(self):
        deeds = ["b", "a"]
        desk = Desk(deeds=deeds)
        deeds.append("c")
        self.assertEqual((desk.deeds, desk.timing, desk.lot, desk.marks, desk.questions, len(desk)),
                         (("b", "a"), Timing(), Lot([]), (), (), 0))
        for odd in [*ODD_VALUES, "a"]:
            self.assert_error(BadDeeds, (1,), Desk, ["a", odd, odd])
        self.assert_error(BadDeeds, (0,), Desk, ())
        self.assert_error(TooMany, ("deeds", 7, 6), Desk, (*SIX, "g"))
        self.assertEqual(Desk(SIX).deeds, SIX)


class Steps(ErrorCase):
    def assert_like(self, desk, model):
        self.assertEqual((desk.deeds, desk.timing, len(desk)), (model.deeds, model.timing, len(model.steps)))
        self.assertEqual((desk.marks, desk.questions), (tuple(model.marks), tuple(model.questions)))
        marks = {name: Mark(fact.machine_for(model.deeds), rule) for name, (fact, rule) in model.marks.items()}
        questions = {name: Question.of(fact, model.deeds, kind) for name, (fact, kind) in model.questions.items()}
        self.assertEqual(desk.lot, Lot(list(marks.values())))
        for name, thing in {**marks, **questions}.items():
            self.assertTrue(name in desk)
            self.assertEqual(desk[name], thing)
        for question in questions.values():
            self.assertTrue(suffices(question, desk.lot, desk.timing))

    def test_drawn_steps(self):
        chance = random.Random(79)
        seen = {}
        for _ in range(150):
            deeds = chance.sample(SIX, chance.randint(1, 6))
            desk, model = Desk(deeds), Model(deeds)
            for _ in range(14):
                step = draw_step(chance, model)
                page = desk.page
                wanted = model.error_of(step)
                try:
                    self.assertIsNone(getattr(desk, step[0])(*step[1:]))
                    found = None
                except LooksError as error:
                    found = error
                key = (step[0], found.__class__.__name__)
                seen[key] = seen.get(key, 0) + 1
                if wanted is None:
                    self.assertIsNone(found, (step, vars(found) if found else None))
                    model.do(step)
                else:
                    self.assertEqual(found.__class__, wanted[0], step)
                    fields = tuple(vars(found).values())
                    if wanted[0] is Refused:
                        asked, lot, timing, looks = wanted[2]
                        self.assertTrue(found.clash.shows(asked, lot, timing))
                        self.assertEqual((found.name, found.clash.looks), (wanted[1][0], looks))
                    else:
                        self.assertEqual(fields, wanted[1])
                    self.assertEqual(desk.page, page)
                self.assert_like(desk, model)
        for name in ("put", "ask", "drop", "limit", "admit", "bar"):
            self.assertGreater(seen.get((name, "NoneType"), 0), 8, seen)
        for name in ("put", "ask", "drop", "limit"):
            self.assertGreater(seen.get((name, "Refused"), 0), 0, seen)
        self.assertGreater(len({name for _, name in seen}), 8, seen)

    def test_put(self):
        desk = example()
        for name in [*ODD_VALUES, "door", "Last", "1a", "a" * 13]:
            self.assert_error(BadName, (name,), desk.put, name, None, "other")
        for rule in [*ODD_VALUES, "Kept", "carried"]:
            self.assert_error(BadRule, (rule,), desk.put, "more", Done(("a",) * 1), rule)
        for k in range(5):
            desk.put(f"m{k}", Done(("open",)), "kept")
        self.assert_error(TooMany, ("marks", 7, 6), desk.put, "m5", Done(("shut",)), "kept")
        self.assert_error(BadRule, ("x",), desk.put, "m5", Done(("shut",)), "x")
        self.assert_error(TooMany, ("marks", 7, 6), desk.put, "m5", Recent(4), "kept")
        self.assert_error(TooMany, ("states", 61, 60), desk.put, "m4", Recent(4), "kept")
        desk.put(rule="cleared", fact=Done(("knock",)), name="m2")
        self.assertEqual(desk.marks, ("last", "m0", "m1", "m2", "m3", "m4"))
        self.assertEqual(desk["m2"], Mark(Done(("knock",)).machine_for(desk.deeds), "cleared"))

    def test_ask(self):
        desk = example()
        for name in [*ODD_VALUES, "last", "Door"]:
            self.assert_error(BadName, (name,), desk.ask, name, None, "other")
        for kind in [*ODD_VALUES, "kept", "Carried"]:
            self.assert_error(BadKind, (kind,), desk.ask, "more", Done(("a",)), kind)
        desk.ask(kind="joined", fact=LAST, name="late")
        desk.ask("door", LAST, "stretch")
        self.assertEqual(desk.questions, ("door", "late"))
        self.assertEqual([desk[name].kind for name in desk.questions], ["stretch", "joined"])

    def test_drop(self):
        desk = example()
        for name in [*ODD_VALUES, "other", "knock", "Last"]:
            self.assert_error(BadName, (name,), desk.drop, name)
        self.assertRaises(Refused, desk.drop, "last")
        desk.drop("door")
        desk.drop(name="last")
        self.assertEqual((desk.marks, desk.questions, len(desk)), ((), (), 6))
        self.assert_error(BadName, ("last",), desk.drop, "last")

    def test_limit(self):
        desk = example()
        for most in [odd for odd in ODD_VALUES if odd is not None] + [10 ** 30 + 1, -1, "3"]:
            self.assert_error(BadNumber, (most,), desk.limit, most, ("z", "z"))
        for odd in [*ODD_VALUES, "z"]:
            self.assert_error(BadDeeds, (2,), desk.limit, 3, ["open", "z", odd if odd != "z" else "open"])
        self.assert_error(NoDeed, (1,), desk.limit, None, ("knock", "z", "y"))
        owed = ["knock", "open"]
        desk.limit(owed=owed, most=10 ** 30)
        owed.clear()
        self.assertEqual(desk.timing, Timing(10 ** 30, ("knock", "open")))
        desk.limit()
        self.assertEqual(desk.timing, Timing())

    def test_admit_and_bar(self):
        desk = Desk(("a",))
        for deed in [*ODD_VALUES, "a", "1a"]:
            self.assert_error(BadDeeds, (0,), desk.admit, deed)
        for deed in SIX[:0:-1]:
            desk.admit(deed=deed)
        self.assertEqual(desk.deeds, ("a", "f", "e", "d", "c", "b"))
        self.assert_error(TooMany, ("deeds", 7, 6), desk.admit, "g")
        for deed in [*ODD_VALUES, "g", "A"]:
            self.assert_error(NoDeed, (0,), desk.bar, deed)
        desk.limit(None, ("c",))
        self.assert_error(BadDeeds, (0,), desk.bar, "c")
        desk.limit()
        for deed in SIX[1:]:
            desk.bar(deed=deed)
        self.assert_error(BadDeeds, (0,), desk.bar, "a")
        self.assertEqual((desk.deeds, len(desk)), (("a",), 12))

    def test_a_deed_that_is_refused(self):
        desk = Desk(("a",))
        desk.put("m", Done(("a",)), "kept")
        desk.ask("q", Done(("a", "b")))
        with self.assertRaises(Refused) as caught:
            desk.admit("b")
        self.assertEqual(caught.exception.name, "q")
        self.assertEqual((desk.deeds, len(desk)), (("a",), 2))
        desk.put("m", Done(("b", "a")), "kept")
        desk.admit("b")
        self.assertEqual(desk.deeds, ("a", "b"))

    def test_a_deed_that_comes_back_stands_behind_the_others(self):
        desk = Desk(("a", "b"))
        desk.put("m", Latest(("a", "b")), "kept")
        desk.bar("a")
        self.assertEqual(desk["m"].machine.deeds, ("b",))
        desk.admit("a")
        self.assertEqual(desk["m"].machine, Latest(("a", "b")).machine_for(("b", "a")))

    def test_the_errors_of_facts_and_places_in_their_order(self):
        long_text = Retold(Done(SIX[:1]), {f"{k:055d}": "x" for k in range(40)})
        self.assertRaises(TooMany, fact_text, long_text)
        wide, far = Recent(3), Both(Recent(4), Recent(4))
        deeds = tuple(name + "0000000" for name in SIX)
        desk = Desk(deeds)
        self.assert_error(BadRule, ("x",), desk.put, "m", long_text, "x")
        self.assert_error(TooMany, ("characters", 2001, 2000), desk.put, "m", long_text, "kept")
        self.assert_error(BadKind, ("x",), desk.ask, "m", long_text, "x")
        self.assert_error(TooMany, ("characters", 2001, 2000), desk.ask, "m", long_text)
        self.assert_error(TooMany, ("characters", 2001, 2000), desk.covers, long_text)
        self.assert_error(TooMany, ("states", 61, 60), desk.put, "m", wide, "kept")
        self.assert_error(TooMany, ("states", 61, 60), desk.ask, "q", wide)
        self.assert_error(TooMany, ("states", 61, 60), desk.covers, wide)
        one = Desk(deeds[:1])
        self.assert_error(TooMany, ("characters", 61, 60), one.put, "m", far, "kept")
        one.put("m", wide, "kept")
        one.put("n", Turn(deeds[:1], 7), "kept")
        one.ask("q", Turn(deeds[:1], 7))
        for name in ("p", "q"):
            self.assert_error(TooMany, PLACES, one.ask, name, Turn(deeds[:1], 11))
        self.assert_error(TooMany, PLACES, one.covers, Turn(deeds[:1], 11))
        self.assert_error(TooMany, PLACES, one.put, "more", Turn(deeds[:1], 11), "kept")
        one.drop("q")
        one.drop("n")
        # With one deed more the fact of the mark has too many states, and with two more already by itself.
        one.admit(deeds[1])
        one.admit(deeds[2])
        self.assert_error(TooMany, ("states", 61, 60), one.admit, deeds[3])
        self.assertEqual(one.deeds, deeds[:3])

    def test_the_first_question_that_is_refused(self):
        desk = Desk(("a", "b"))
        desk.put("m", Latest(("a", "b")), "kept")
        desk.put("n", Turn(("a",), 2), "kept")
        desk.ask("x", Turn(("a",), 2))
        desk.ask("y", Latest(("a", "b")))
        desk.ask("z", Latest(("a",)).__class__(("a", "b")))
        with self.assertRaises(Refused) as caught:
            desk.drop("m")
        self.assertEqual(caught.exception.name, "y")
        with self.assertRaises(Refused) as caught:
            desk.put("n", Turn(("a",), 3), "kept")
        self.assertEqual(caught.exception.name, "x")
        with self.assertRaises(Refused) as caught:
            desk.ask("y", Count(("b",), 3))
        self.assertEqual(caught.exception.name, "y")
        self.assertEqual((desk["y"], len(desk)), (Question.of(Latest(("a", "b")), ("a", "b")), 5))


class Reading(ErrorCase):
    def test_brackets_and_in(self):
        desk = example()
        for odd in [*ODD_VALUES, "other", 0, "knock"]:
            self.assertIs(odd in desk, False)
            self.assert_error(BadName, (odd,), desk.__getitem__, odd)
        self.assertIs("last" in desk, True)
        self.assertIs("door" in desk, True)
        self.assertRaises(TypeError, iter, desk)
        self.assertRaises(TypeError, list, desk)

    def test_equality(self):
        one, other = example(), Desk(("open", "knock", "shut"))
        self.assertFalse(one == other)
        other = Desk(("open", "shut", "knock"))
        other.limit(3, ("shut",))
        other.put("last", LAST, "cleared")
        self.assertFalse(one == other)
        other.ask("door", LAST)
        self.assertTrue(one == other and not one != other)
        for step in [("put", "last", Latest(("shut", "open")), "cleared"), ("limit", 2, ("shut",)),
                     ("put", "more", LAST, "kept"), ("ask", "door", LAST, "stretch"), ("ask", "door2", LAST),
                     ("admit", "z"), ("put", "last", LAST, "kept")]:
            getattr(other, step[0])(*step[1:])
            self.assertFalse(one == other, step)
            other.undo()
            self.assertTrue(one == other)
        for value in [None, "desk", one.page, one.lot]:
            self.assertFalse(one == value)

    def test_the_orders_of_names_count(self):
        desks = []
        for names in (("m", "n"), ("n", "m")):
            desk = Desk(("a",))
            for name in names:
                desk.put(name, Done(("a",)), "kept")
            desks.append(desk)
        self.assertFalse(desks[0] == desks[1])


class Asked(ErrorCase):
    def test_covers_needs_and_rate(self):
        chance = random.Random(82)
        seen = {}
        for _ in range(150):
            desk, model = some_desk(chance, 8)
            page = desk.page
            fact, kind = chance.choice([Done(desk.deeds[:1]), Latest(desk.deeds), Turn(desk.deeds, 2)]), \
                chance.choice(KINDS)
            asked = Question.of(fact, desk.deeds, kind)
            if count_places(asked, desk.lot) > 60:
                self.assert_error(TooMany, PLACES, desk.covers, fact, kind)
                continue
            found = desk.covers(fact, kind)
            wanted = clash(asked, desk.lot, desk.timing)
            self.assertEqual(found is None, wanted is None)
            if found is not None:
                self.assertTrue(found.shows(asked, desk.lot, desk.timing))
                self.assertEqual(found.looks, wanted.looks)
            else:
                desk.ask("new", fact, kind)
                desk.undo()
            for name in desk.marks:
                rest = Lot([desk[other] for other in desk.marks if other != name])
                self.assertEqual(desk.needs(name=name), tuple(
                    own for own in desk.questions if not suffices(desk[own], rest, desk.timing)))
            rates = [rate(desk[name], desk.lot, owed=desk.timing.owed)[0] for name in desk.questions]
            numbers = [most for most in rates if most is not None]
            wanted = (min(numbers), desk.questions[rates.index(min(numbers))]) if numbers else (None, None)
            self.assertEqual(desk.rate(), wanted)
            if numbers:
                desk.limit(wanted[0], desk.timing.owed)
                with self.assertRaises(Refused) as caught:
                    desk.limit(wanted[0] + 1, desk.timing.owed)
                self.assertEqual(caught.exception.name, wanted[1])
                desk.undo()
            seen[(found is None, bool(numbers))] = seen.get((found is None, bool(numbers)), 0) + 1
            self.assertEqual((desk.page, len(desk)), (page, len(model.steps)))
        self.assertGreaterEqual(len(seen), 3, seen)

    def test_the_rate_of_two_version_numbers(self):
        desk = Desk(("x", "y"))
        desk.put("five", Turn(("x", "y"), 5), "kept")
        desk.put("three", Turn(("x",), 3), "kept")
        desk.limit(1)
        desk.ask("any", Done(("x", "y")), "stretch")
        self.assertEqual(desk.rate(), (4, "any"))
        desk.ask("some", Done(("x",)), "stretch")
        self.assertEqual(desk.rate(), (2, "some"))
        desk.ask("never", Turn(("x",), 3))
        self.assertEqual(desk.rate(), (2, "some"))
        self.assertEqual([desk.needs(name) for name in desk.marks], [("any",), ("some", "never")])
        self.assertEqual(desk.covers(Done(("y",)), "stretch"), None)
        desk.limit(2)
        self.assertIsNotNone(desk.covers(Latest(("x", "y")), "carried"))
        desk.drop("some")
        self.assertEqual(desk.rate(), (4, "any"))
        desk.limit(None, ("x", "y"))
        self.assertEqual(desk.rate(), (None, None))

    def test_errors(self):
        desk = example()
        for kind in [*ODD_VALUES, "kept"]:
            self.assert_error(BadKind, (kind,), desk.covers, LAST, kind)
        for name in [*ODD_VALUES, "door", "other"]:
            self.assert_error(BadName, (name,), desk.needs, name)
        self.assertIsNone(desk.covers(kind="joined", fact=LAST))
        self.assertEqual(Desk(OS).rate(), (None, None))
        self.assertEqual(Desk(OS).covers(LAST).looks, 1)


class Back(ErrorCase):
    def test_undo_and_past(self):
        chance = random.Random(83)
        for _ in range(40):
            desk, model = some_desk(chance, 8)
            lines = desk.page.split("\n")
            for k in range(len(desk) + 1):
                past = desk.past(k=k)
                self.assertEqual((past.page, len(past)), ("\n".join(lines[:k + 1]), k))
                self.assertEqual(past, Desk.read(past.page))
                self.assertIsNot(past, desk)
            for k in range(len(desk) - 1, -1, -1):
                wanted = desk.past(k)
                self.assertIsNone(desk.undo())
                self.assertEqual((desk, desk.page), (wanted, wanted.page))
                self.assertEqual((desk.deeds, desk.timing, desk.lot, desk.marks, desk.questions),
                                 (wanted.deeds, wanted.timing, wanted.lot, wanted.marks, wanted.questions))
            self.assert_error(NoSteps, (), desk.undo)
            self.assertEqual(desk, Desk(desk.deeds))

    def test_a_past_desk_lives_by_itself(self):
        desk = example()
        past = desk.past(2)
        past.put("more", Done(("open",)), "kept")
        self.assertEqual((desk.marks, len(desk)), (("last",), 4))
        desk.undo()
        desk.undo()
        desk.limit(1)
        self.assertEqual((past.marks, past.timing, len(past)), (("last", "more"), Timing(), 3))
        past.undo()
        past.undo()
        self.assertEqual((past.questions, desk.questions), ((), ("door",)))

    def test_numbers(self):
        desk = example()
        for k in [5, -1, True, None, "1", 1.0, (1,)]:
            self.assert_error(BadNumber, (k,), desk.past, k)
        self.assertEqual(desk.past(4), desk)
        self.assert_error(NoSteps, (), Desk(OS).undo)


class Always(ErrorCase):
    def test_no_two_histories_that_read_alike_need_other_answers(self):
        chance = random.Random(84)
        for _ in range(25):
            desk, _ = some_desk(chance, 10)
            for k in range(len(desk) + 1):
                past = desk.past(k)
                for name in past.questions:
                    self.assertIsNone(clash(past[name], past.lot, past.timing))
                    places_for(past[name], past.lot, past.timing)

    def test_rules_and_words(self):
        desk = Desk(SIX)
        for k, rule in enumerate(RULES):
            desk.put(f"m{k}", Ends(SIX[:3]), rule)
        self.assertTrue(all(is_word(name) for name in desk.marks))
        self.assertEqual([desk[name].rule for name in desk.marks], list(RULES))


if __name__ == "__main__":
    unittest.main()
