"""Desks: marks and questions that change step by step, so that the marks suffice at every moment; and shifts."""

from betweenlooks.clashes import clash
from betweenlooks.errors import (
    BadDeeds, BadKind, BadName, BadNumber, BadRule, BadState, BadText, LooksError, NoDeed, NoSteps, TooLong, TooMany,
)
from betweenlooks.histories import History
from betweenlooks.marks import MOST_MARKS
from betweenlooks.pages import deeds_line, limit_line, read_deeds, read_step
from betweenlooks.questions import Question
from betweenlooks.setups import bare_setup
from betweenlooks.texts import fact_text
from betweenlooks.timings import Timing
from betweenlooks.watchers import Watcher
from betweenlooks.words import KINDS, MOST_DEEDS, RULES, check_deeds, is_index, is_word


class Desk:
    """Deeds, a timing, named marks and named questions; the lot of the marks suffices for each of the questions.

    For each step there is a line and the setup behind it; ahead of these setups is that of the beginning.
    """

    def __init__(self, deeds):
        check_deeds(deeds)
        self._lines = []
        self._setups = [bare_setup(deeds)]
        self._show()

    def _show(self):
        """Set the attributes to what the last setup has."""
        self._setup = self._setups[-1]
        self.deeds = self._setup.deeds
        self.timing = self._setup.timing
        self.lot = self._setup.lot
        self.marks, self.questions = self._setup.names()

    def _step(self, line, setup):
        """Do a step, if the lot suffices behind it."""
        setup.check()
        self._lines = self._lines + [line]
        self._setups = self._setups + [setup]
        self._show()

    def put(self, name, fact, rule):
        """Make a mark, or another one in the place of the one with this name."""
        if not is_word(name) or name in self.questions:
            raise BadName(name)
        if rule not in RULES:
            raise BadRule(rule)
        if name not in self.marks and len(self.marks) == MOST_MARKS:
            raise TooMany("marks", MOST_MARKS + 1, MOST_MARKS)
        line = f"put {name} {rule} {fact_text(fact)}"
        self._step(line, self._setup.with_mark(name, fact, rule))

    def ask(self, name, fact, kind="carried"):
        """Make a question, or another one in the place of the one with this name."""
        if not is_word(name) or name in self.marks:
            raise BadName(name)
        if kind not in KINDS:
            raise BadKind(kind)
        line = f"ask {name} {kind} {fact_text(fact)}"
        self._step(line, self._setup.with_question(name, fact, kind))

    def drop(self, name):
        """Remove the mark or the question with this name."""
        if name not in self:
            raise BadName(name)
        self._step(f"drop {name}", self._setup.without(name))

    def limit(self, most=None, owed=()):
        """Limit the stretches."""
        timing = Timing(most, owed)
        for index, deed in enumerate(timing.owed):
            if deed not in self.deeds:
                raise NoDeed(index)
        self._step(limit_line(timing), self._setup.with_timing(timing))

    def admit(self, deed):
        """Let one more deed happen."""
        if not is_word(deed) or deed in self.deeds:
            raise BadDeeds(0)
        if len(self.deeds) == MOST_DEEDS:
            raise TooMany("deeds", MOST_DEEDS + 1, MOST_DEEDS)
        self._step(f"admit {deed}", self._setup.with_deeds(self.deeds + (deed,)))

    def bar(self, deed):
        """Let a deed happen no more."""
        if not is_word(deed) or deed not in self.deeds:
            raise NoDeed(0)
        if len(self.deeds) == 1 or deed in self.timing.owed:
            raise BadDeeds(0)
        self._step(f"bar {deed}", self._setup.with_deeds([own for own in self.deeds if own != deed]))

    def __getitem__(self, at):
        if at not in self:
            raise BadName(at)
        return self._setup.thing(at)

    def __iter__(self):
        raise TypeError("a desk is not iterated over")

    def __contains__(self, x):
        return is_word(x) and (x in self.marks or x in self.questions)

    def __len__(self):
        return len(self._lines)

    def __eq__(self, other):
        if not isinstance(other, Desk):
            return NotImplemented
        return self._setup.is_like(other._setup)

    def covers(self, fact, kind="carried"):
        """The clash with which this question would be refused, or None."""
        if kind not in KINDS:
            raise BadKind(kind)
        fact_text(fact)
        return clash(Question.of(fact, self.deeds, kind), self.lot, self.timing)

    def needs(self, name):
        """The names of the questions for which the lot without this mark does not suffice."""
        if not is_word(name) or name not in self.marks:
            raise BadName(name)
        return self._setup.needing(name)

    def rate(self):
        """How many deeds a stretch may have at most, and the first question that refuses more; or None twice."""
        return self._setup.slowest()

    def undo(self):
        """Take back the last step."""
        if len(self._lines) == 0:
            raise NoSteps()
        self._lines = self._lines[:-1]
        self._setups = self._setups[:-1]
        self._show()

    def past(self, k):
        """A new desk, as this one was behind its first k steps."""
        if not is_index(k, len(self._setups)):
            raise BadNumber(k)
        desk = Desk(self._setups[0].deeds)
        desk._lines = self._lines[:k]
        desk._setups = self._setups[:k + 1]
        desk._show()
        return desk

    @property
    def page(self):
        """The text of the beginning and of all steps."""
        return "\n".join([deeds_line(self._setups[0].deeds)] + self._lines)

    @classmethod
    def read(cls, page):
        """The desk that has this page."""
        lines = page.split("\n")
        try:
            desk = cls(read_deeds(lines[0]))
        except LooksError:
            raise BadText(1) from None
        for number in range(1, len(lines)):
            try:
                do_step(desk, lines[number])
            except LooksError:
                raise BadText(number + 1) from None
            # A number may be read with zeros ahead of it, which its page does not have.
            if desk._lines[-1] != lines[number]:
                raise BadText(number + 1)
        return desk

    def shift(self, states=None):
        """Begin a shift; a dict tells the states of taken questions at the first look."""
        told = {} if states is None else states
        taken = {entry.name: entry.made for entry in self._setup.questions if entry.way == "taken"}
        for name in sorted(list(told)):
            if name not in taken:
                raise BadName(name)
        for name in sorted(list(told)):
            if not is_index(told[name], len(taken[name].core)):
                raise BadState(told[name])
        return Shift(self._setup, {name: told.get(name, 0) for name in taken})


def do_step(desk, line):
    """Do the step that a line tells."""
    word, arguments = read_step(line)
    if word == "put":
        desk.put(arguments[0], arguments[1], arguments[2])
    elif word == "ask":
        desk.ask(arguments[0], arguments[1], arguments[2])
    elif word == "drop":
        desk.drop(arguments[0])
    elif word == "limit":
        desk.limit(arguments[0], arguments[1])
    elif word == "admit":
        desk.admit(arguments[0])
    else:
        desk.bar(arguments[0])


class Shift:
    """The deeds happen, and somebody looks. For each question there is a watcher who knows nothing but the readings."""

    def __init__(self, setup, states):
        self._setup = setup
        self._watchers = {}
        for entry in setup.questions:
            told = states.get(entry.name, None)
            self._watchers[entry.name] = Watcher(entry.made, setup.lot, setup.timing, state=told)
        self._values = setup.lot.begin
        self._stretches = ()
        self._stretch = ()

    def happen(self, row):
        """Let the deeds of the row happen."""
        for index, deed in enumerate(row):
            if deed not in self._setup.deeds:
                raise NoDeed(index)
        most, owed = self._setup.timing.most, self._setup.timing.owed
        last = self._stretch[-1:]
        for index, deed in enumerate(row):
            is_full = most is not None and len(self._stretch) + index >= most
            if is_full or any([before in owed for before in last]):
                raise TooLong(index)
            last = (deed,)
        self._values = self._setup.lot.after(self._values, row)
        self._stretch = self._stretch + tuple(row)

    def look(self):
        """Look: the reading, and the answer of each question by its name."""
        reading, self._values = self._setup.lot.look(self._values)
        self._stretches = self._stretches + (self._stretch,)
        self._stretch = ()
        return (reading, {name: self._watchers[name].look(reading) for name in self._watchers})

    @property
    def history(self):
        """The history of the stretches that ended with a look."""
        return History(self._stretches)

    @property
    def stretch(self):
        """The deeds since the last look."""
        return self._stretch
