"""Setups: what is on a desk at some moment, and what follows from that. A setup never changes."""

from betweenlooks.clashes import clash, rate
from betweenlooks.errors import Refused
from betweenlooks.marks import Lot, Mark
from betweenlooks.places import places_for
from betweenlooks.questions import Question
from betweenlooks.timings import Timing


class Setup:
    """The deeds, the timing, and the entries of the marks and questions of a desk, with what is made of them.

    An entry is a triple: the name, the fact, and the rule or kind.
    """

    def __init__(self, deeds, timing=None, mark_entries=(), question_entries=()):
        self.deeds = tuple(deeds)
        self.timing = Timing() if timing is None else timing
        self.mark_entries = tuple(mark_entries)
        self.question_entries = tuple(question_entries)
        self.marks = tuple([Mark(fact.machine_for(deeds), rule) for _, fact, rule in mark_entries])
        self.questions = tuple([Question.of(fact, deeds, kind) for _, fact, kind in question_entries])
        self.lot = Lot(self.marks)

    def mark_names(self):
        """The names of the marks."""
        return tuple([name for name, _, _ in self.mark_entries])

    def question_names(self):
        """The names of the questions."""
        return tuple([name for name, _, _ in self.question_entries])

    def named_questions(self):
        """The pairs of the name of a question and the question."""
        return list(zip(self.question_names(), self.questions))

    def is_like(self, other):
        """Whether two setups have equal deeds, timings and entries."""
        if self.deeds != other.deeds or self.timing != other.timing:
            return False
        return self.mark_entries == other.mark_entries and self.question_entries == other.question_entries

    def with_timing(self, timing):
        """The setup with another timing."""
        return Setup(self.deeds, timing, self.mark_entries, self.question_entries)

    def with_deeds(self, deeds):
        """The setup with other deeds."""
        return Setup(deeds, self.timing, self.mark_entries, self.question_entries)

    def with_mark(self, entry):
        """The setup with one more mark, or with another one of this name."""
        return Setup(self.deeds, self.timing, replaced(self.mark_entries, entry), self.question_entries)

    def with_question(self, entry):
        """The setup with one more question, or with another one of this name."""
        return Setup(self.deeds, self.timing, self.mark_entries, replaced(self.question_entries, entry))

    def without(self, name):
        """The setup without the mark or question of this name."""
        marks = [entry for entry in self.mark_entries if entry[0] != name]
        return Setup(self.deeds, self.timing, marks, [entry for entry in self.question_entries if entry[0] != name])

    def check(self):
        """Raise an error unless the lot suffices for all questions."""
        for question in self.questions:
            places_for(question, self.lot, self.timing)
        for name, question in self.named_questions():
            found = clash(question, self.lot, self.timing)
            if found is not None:
                raise Refused(name, found)

    def needing(self, name):
        """The names of the questions for which the lot without this mark does not suffice."""
        kept = [mark for own, mark in zip(self.mark_names(), self.marks) if own != name]
        asked = self.named_questions()
        return tuple([own for own, question in asked if clash(question, Lot(kept), self.timing) is not None])

    def slowest(self):
        """How many deeds a stretch may have at most, and the first question that refuses more; or None twice."""
        rates = [rate(question, self.lot, owed=self.timing.owed)[0] for question in self.questions]
        bounds = [most for most in rates if most is not None]
        if len(bounds) == 0:
            return (None, None)
        return (min(bounds), self.question_names()[rates.index(min(bounds))])


def replaced(entries, entry):
    """The entries, in which this one takes the place of that with the same name, or else comes behind."""
    if entry[0] not in [name for name, _, _ in entries]:
        return entries + (entry,)
    return tuple([entry if own[0] == entry[0] else own for own in entries])
