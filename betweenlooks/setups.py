"""Setups: what is on a desk at some moment, and what follows from that. A setup never changes."""

from betweenlooks.clashes import clash, rate
from betweenlooks.errors import Refused
from betweenlooks.marks import Lot, Mark
from betweenlooks.places import places_for
from betweenlooks.questions import Question
from betweenlooks.timings import Timing


class Entry:
    """A mark or a question with its name, and what it was made from: a fact, and the rule or the kind."""

    def __init__(self, name, fact, way, made):
        self.name = name
        self.fact = fact
        self.way = way
        self.made = made

    def label(self):
        """What tells this entry from others."""
        return (self.name, self.way, self.fact)


def mark_entry(deeds, name, fact, rule):
    """The entry of a mark."""
    return Entry(name, fact, rule, Mark(fact.machine_for(deeds), rule))


def question_entry(deeds, name, fact, kind):
    """The entry of a question."""
    return Entry(name, fact, kind, Question.of(fact, deeds, kind))


def with_entry(entries, entry):
    """The entries, in which this one takes the place of that with the same name, or else comes behind."""
    if entry.name not in [own.name for own in entries]:
        return entries + [entry]
    return [entry if own.name == entry.name else own for own in entries]


class Setup:
    """The deeds, the timing, and the entries of the marks and questions of a desk."""

    def __init__(self, deeds, timing, marks, questions):
        self.deeds = tuple(deeds)
        self.timing = timing
        self.marks = list(marks)
        self.questions = list(questions)
        self.lot = Lot([entry.made for entry in marks])

    def names(self):
        """The names of the marks and those of the questions, as two tuples."""
        return (tuple([entry.name for entry in self.marks]), tuple([entry.name for entry in self.questions]))

    def thing(self, name):
        """The mark or question with this name."""
        return [entry.made for entry in self.marks + self.questions if entry.name == name][0]

    def is_like(self, other):
        """Whether two setups have equal deeds, timings and entries."""
        if self.deeds != other.deeds or self.timing != other.timing:
            return False
        mine = [[entry.label() for entry in entries] for entries in (self.marks, self.questions)]
        return mine == [[entry.label() for entry in entries] for entries in (other.marks, other.questions)]

    def with_mark(self, name, fact, rule):
        """The setup with one more mark, or with another one of this name."""
        marks = with_entry(self.marks, mark_entry(self.deeds, name, fact, rule))
        return Setup(self.deeds, self.timing, marks, self.questions)

    def with_question(self, name, fact, kind):
        """The setup with one more question, or with another one of this name."""
        questions = with_entry(self.questions, question_entry(self.deeds, name, fact, kind))
        return Setup(self.deeds, self.timing, self.marks, questions)

    def without(self, name):
        """The setup without the mark or question of this name."""
        marks = [entry for entry in self.marks if entry.name != name]
        return Setup(self.deeds, self.timing, marks, [entry for entry in self.questions if entry.name != name])

    def with_timing(self, timing):
        """The setup with another timing."""
        return Setup(self.deeds, timing, self.marks, self.questions)

    def with_deeds(self, deeds):
        """The setup with other deeds, for which all marks and then all questions are made anew."""
        marks = [mark_entry(deeds, entry.name, entry.fact, entry.way) for entry in self.marks]
        questions = [question_entry(deeds, entry.name, entry.fact, entry.way) for entry in self.questions]
        return Setup(deeds, self.timing, marks, questions)

    def check(self):
        """Raise an error unless the lot suffices for all questions."""
        # Too many places for any question come ahead of a clash for any question.
        for entry in self.questions:
            places_for(entry.made, self.lot, self.timing)
        for entry in self.questions:
            found = clash(entry.made, self.lot, self.timing)
            if found is not None:
                raise Refused(entry.name, found)

    def needing(self, name):
        """The names of the questions for which the lot without this mark does not suffice."""
        rest = self.without(name).lot
        needing = [entry for entry in self.questions if clash(entry.made, rest, self.timing) is not None]
        return tuple([entry.name for entry in needing])

    def slowest(self):
        """How many deeds a stretch may have at most, and the first question that refuses more; or None twice."""
        rates = [rate(entry.made, self.lot, owed=self.timing.owed)[0] for entry in self.questions]
        bounds = [most for most in rates if most is not None]
        if len(bounds) == 0:
            return (None, None)
        return (min(bounds), self.questions[rates.index(min(bounds))].name)


def bare_setup(deeds):
    """The setup with these deeds and nothing else."""
    return Setup(deeds, Timing(), [], [])
