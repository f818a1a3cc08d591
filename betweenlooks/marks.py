"""Marks: machines whose tells are shown at the looks, and lots of marks that are read at the same moment."""

from betweenlooks.errors import BadRule, BadState, NoDeed, OtherDeeds, TooMany
from betweenlooks.words import RULES, is_index

MOST_MARKS = 6


class Mark:
    """A machine, and the rule that tells whether a look leaves its value or sets it back."""

    def __init__(self, machine, rule):
        if rule not in RULES:
            raise BadRule(rule)
        self.machine = machine
        self.rule = rule

    def __eq__(self, other):
        if not isinstance(other, Mark):
            return NotImplemented
        return self.machine == other.machine and self.rule == other.rule

    @property
    def hides(self):
        """Whether two reached values have the same tell."""
        tells = [self.machine.tells[value] for value, _ in self.machine.reached()]
        return len(set(tells)) < len(tells)


class Lot:
    """Marks with the same deeds, perhaps none."""

    def __init__(self, marks):
        if len(marks) > MOST_MARKS:
            raise TooMany("marks", len(marks), MOST_MARKS)
        for mark in marks:
            if mark.machine.deeds != marks[0].machine.deeds:
                raise OtherDeeds(marks[0].machine.deeds, mark.machine.deeds)
        self.marks = tuple(marks)
        self.begin = tuple([mark.machine.start for mark in marks])

    def __len__(self):
        return len(self.marks)

    def __iter__(self):
        return iter(self.marks)

    def __eq__(self, other):
        if not isinstance(other, Lot):
            return NotImplemented
        return self.marks == other.marks

    def __getitem__(self, at):
        return self.marks[at]

    def after(self, values, row):
        """The values to which the deeds of the row lead these values."""
        check_values(self.marks, values)
        return tuple([mark.machine.after(row, value) for mark, value in zip(self.marks, values)])

    def look(self, values):
        """What a look at these values shows, and the values behind it."""
        check_values(self.marks, values)
        reading = []
        later = []
        for mark, value in zip(self.marks, values):
            reading.append(mark.machine.tells[value])
            later.append(mark.machine.start if mark.rule == "cleared" else value)
        return (tuple(reading), tuple(later))

    def readings(self, history):
        """The readings of all looks of a history that begins with the first values."""
        for index, deed in enumerate(history.whole):
            if len(self.marks) > 0 and deed not in self.marks[0].machine.deeds:
                raise NoDeed(index)
        values = self.begin
        readings = []
        for stretch in history:
            reading, values = self.look(self.after(values, stretch))
            readings.append(reading)
        return readings


def check_values(marks, values):
    """Raise BadState for the first place that does not hold a value of its mark."""
    for index, mark in enumerate(marks):
        if not is_index(values[index], len(mark.machine)):
            raise BadState(index)
