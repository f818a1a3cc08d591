"""Drawn steps for desks, right and wrong ones, and what should come of them."""

from betweenlooks.desks import Desk
from betweenlooks.errors import (
    BadDeeds, BadKind, BadName, BadNumber, BadRule, LooksError, NoDeed, Refused, TooMany,
)
from betweenlooks.facts import Count, Done, Ends, Latest, Recent, Since, Turn
from betweenlooks.marks import Lot, Mark
from betweenlooks.questions import Question
from betweenlooks.texts import fact_text
from betweenlooks.timings import Timing
from lookers import KINDS, RULES, count_places, fewest_looks

WORDS = ("a", "b", "c", "d", "e", "f", "g")
NAMES = ("m", "n", "last", "door", "q", "deeds", "put", "x1")


class Model:
    """A desk as plain lists; each step is judged by the words of [80]."""

    def __init__(self, deeds):
        self.deeds, self.timing = tuple(deeds), Timing()
        self.marks, self.questions, self.steps = {}, {}, []

    def behind(self, step):
        """What the desk would have behind a step: deeds, timing, marks and questions."""
        deeds, timing, marks, questions = self.deeds, self.timing, dict(self.marks), dict(self.questions)
        word, *rest = step
        if word == "put":
            marks[rest[0]] = tuple(rest[1:])
        elif word == "ask":
            questions[rest[0]] = (rest[1], rest[2] if len(rest) > 2 else "carried")
        elif word == "drop":
            marks.pop(rest[0], None)
            questions.pop(rest[0], None)
        elif word == "limit":
            timing = Timing(*rest)
        elif word == "admit":
            deeds += (rest[0],)
        else:
            deeds = tuple(deed for deed in deeds if deed != rest[0])
        return deeds, timing, marks, questions

    def named(self, step):
        """The error that the step names, or None."""
        word, *rest = step
        if word in ("put", "ask"):
            theirs, others = (self.marks, self.questions) if word == "put" else (self.questions, self.marks)
            if not is_word(rest[0]) or rest[0] in others:
                return BadName, (rest[0],)
            if word == "put" and rest[2] not in RULES:
                return BadRule, (rest[2],)
            if word == "ask" and len(rest) > 2 and rest[2] not in KINDS:
                return BadKind, (rest[2],)
            if word == "put" and rest[0] not in theirs and len(theirs) == 6:
                return TooMany, ("marks", 7, 6)
        elif word == "drop" and not (is_word(rest[0]) and (rest[0] in self.marks or rest[0] in self.questions)):
            return BadName, (rest[0],)
        elif word == "limit":
            most, owed = (*rest, (), ())[:2]
            if most is not None and not (most.__class__ is int and 0 <= most <= 10 ** 30):
                return BadNumber, (most,)
            for index, deed in enumerate(owed):
                if not is_word(deed) or deed in owed[:index]:
                    return BadDeeds, (index,)
            for index, deed in enumerate(owed):
                if deed not in self.deeds:
                    return NoDeed, (index,)
        elif word == "admit":
            if not is_word(rest[0]) or rest[0] in self.deeds:
                return BadDeeds, (0,)
            if len(self.deeds) == 6:
                return TooMany, ("deeds", 7, 6)
        elif word == "bar":
            if not is_word(rest[0]) or rest[0] not in self.deeds:
                return NoDeed, (0,)
            if len(self.deeds) == 1 or rest[0] in self.timing.owed:
                return BadDeeds, (0,)
        return None

    def error_of(self, step):
        """The class and the fields of the error that a step raises, or None; for Refused also what it is about."""
        named = self.named(step)
        if named is not None:
            return named
        deeds, timing, marks, questions = self.behind(step)
        try:
            if step[0] in ("put", "ask"):
                fact_text(step[2])
            lot = Lot([Mark(fact.machine_for(deeds), rule) for fact, rule in marks.values()])
            asked = {name: Question(fact.machine_for(deeds), kind) for name, (fact, kind) in questions.items()}
        except LooksError as error:
            return error.__class__, tuple(vars(error).values())
        if any(count_places(question, lot) > 60 for question in asked.values()):
            return TooMany, ("places", 61, 60)
        for name, question in asked.items():
            looks = fewest_looks(question, lot, timing)
            if looks is not None:
                return Refused, (name,), (question, lot, timing, looks)
        return None

    def do(self, step):
        self.deeds, self.timing, self.marks, self.questions = self.behind(step)
        self.steps.append(step)


def is_word(value):
    letters = "abcdefghijklmnopqrstuvwxyz"
    return value.__class__ is str and 1 <= len(value) <= 12 and value[0] in letters \
        and set(value) <= set(letters + "0123456789")


def some_fact(chance, deeds):
    group = tuple(chance.sample(deeds, chance.randint(1, min(2, len(deeds)))))
    kind = chance.randint(0, 7)
    if kind == 0:
        return Done(group)
    if kind == 1:
        return Turn(group, chance.randint(1, 4))
    if kind == 2:
        return Count(group, chance.randint(1, 3))
    if kind == 3:
        return Ends(tuple(chance.choices(deeds, k=2)))
    if kind == 4:
        return Recent(chance.randint(1, 3))
    if kind == 5:
        return Since(group, Done(tuple(deeds)))
    return Latest(tuple(deeds) if chance.random() < 0.5 else group)


def draw_step(chance, model):
    """Any step for a desk like the model, often one that suits it, at times a wrong one."""
    names = [*model.marks, *model.questions]
    word = chance.choice(["put", "put", "put", "ask", "ask", "ask", "drop", "limit", "admit", "bar"])
    odd = chance.random() < 0.12
    wrong = chance.choice([None, True, 0, "", "A", "a b", ["m"], ("m",), {}, "1a", "a" * 13, b"m", "zzz"])
    if word == "put":
        name = wrong if odd else chance.choice(NAMES + tuple(model.marks))
        rule = chance.choice([*RULES, "carried", wrong]) if chance.random() < 0.1 else chance.choice(RULES)
        return word, name, some_fact(chance, model.deeds), rule
    if word == "ask":
        facts = [fact for fact, _ in model.marks.values()] or [Done(model.deeds)]
        fact = chance.choice(facts) if chance.random() < 0.7 else some_fact(chance, model.deeds)
        name = wrong if odd else chance.choice(NAMES + tuple(model.questions))
        kind = chance.choice(["kept", wrong]) if chance.random() < 0.06 else chance.choice(KINDS)
        return (word, name, fact) if chance.random() < 0.2 else (word, name, fact, kind)
    if word == "drop":
        return word, wrong if odd or not names else chance.choice(names)
    if word == "limit":
        most = wrong if odd and chance.random() < 0.5 else chance.choice([None, None, 0, 1, 2, 3, 10 ** 30])
        owed = chance.sample(WORDS if odd else model.deeds, 1 if odd else chance.choice([0, 0, 1]))
        return word, most, (*owed, *owed) if odd and chance.random() < 0.3 else owed
    if word == "admit":
        return word, wrong if odd else chance.choice(WORDS)
    return word, wrong if odd else chance.choice(model.deeds + WORDS[:2])


def some_desk(chance, steps):
    """A desk with at most so many drawn steps, and its model."""
    deeds = chance.sample(WORDS[:6], chance.randint(1, 3))
    desk, model = Desk(deeds), Model(deeds)
    for number in range(steps):
        # Under a narrow limit more questions are taken.
        narrow = number == 0 and chance.random() < 0.6
        step = ("limit", chance.randint(1, 2)) if narrow else draw_step(chance, model)
        if model.error_of(step) is None:
            getattr(desk, step[0])(*step[1:])
            model.do(step)
    return desk, model
