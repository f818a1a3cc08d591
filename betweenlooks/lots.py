"""Lots: which marks are needed together for a question, which of them are the cheapest, and what bars cheaper ones."""

from betweenlooks.clashes import Clash, clash_at
from betweenlooks.errors import BadMark, BadNumber, BadPrice, OtherDeeds, TooMany
from betweenlooks.marks import MOST_MARKS, Lot, Mark
from betweenlooks.places import places_for
from betweenlooks.timings import Timing, timing_or_free
from betweenlooks.words import is_integer

GREATEST_PRICE = 10 ** 30
MOST_LIMITS = 12


def all_choices(many):
    """All ascending tuples of different indexes of so many things, ordered by their length and then as tuples."""
    found = []
    layer = [()]
    while len(layer) > 0:
        found.extend(layer)
        layer = [choice + (index,) for choice in layer for index in range(many) if choice == () or index > choice[-1]]
    return found


def check_marks(marks):
    """Raise BadMark for the first member that is not a Mark."""
    for index, mark in enumerate(marks):
        if not isinstance(mark, Mark):
            raise BadMark(index)


def check_lot(question, marks, timing):
    """Raise an error unless the lot of all these marks can be judged for a question under a timing."""
    if len(marks) > MOST_MARKS:
        raise TooMany("marks", len(marks), MOST_MARKS)
    for mark in marks:
        if mark.machine.deeds != question.deeds:
            raise OtherDeeds(question.deeds, mark.machine.deeds)
    places_for(question, Lot(marks), timing)


def marks_of(priced):
    """The marks of a list of pairs of a mark and a price."""
    for index, pair in enumerate(priced):
        if not isinstance(pair, (list, tuple)) or len(pair) != 2 or not isinstance(pair[0], Mark):
            raise BadMark(index)
    for index, (_, price) in enumerate(priced):
        if not is_integer(price) or not 1 <= price <= GREATEST_PRICE:
            raise BadPrice(index)
    return [mark for mark, _ in priced]


def clash_of(question, marks, choice, timing):
    """A clash for the lot of a choice, or None."""
    return clash_at(places_for(question, Lot([marks[index] for index in choice]), timing), timing)


def choices(question, marks, timing=None):
    """The choices whose lot suffices while none with one mark less does."""
    check_marks(marks)
    bound = timing_or_free(timing)
    check_lot(question, marks, bound)
    trial = Trial(question, marks, bound)
    found = []
    for choice in all_choices(len(marks)):
        # More marks show more: a lot that has more than one that suffices does suffice, too.
        if not any([is_within(least, choice) for least in found]) and trial.passes(choice):
            found.append(choice)
    return found


def is_within(choice, other):
    """Whether all indexes of one choice are in another one."""
    return all([index in other for index in choice])


class Trial:
    """Tells which choices suffice. The clashes that are found on the way are kept, with the marks that part them."""

    def __init__(self, question, marks, timing):
        self.question = question
        self.marks = marks
        self.timing = timing
        self.clashes = []

    def passes(self, choice):
        """Whether the lot of a choice suffices."""
        for _, parts in self.clashes:
            if not any([index in parts for index in choice]):
                return False
        found = clash_of(self.question, self.marks, choice, self.timing)
        if found is not None:
            self.clashes.append((found, parting(found, self.marks)))
        return found is None


class Cheapest:
    """A choice with the least price of all that suffice, and clashes that bar all cheaper ones."""

    def __init__(self, question, priced, timing=None):
        marks = marks_of(priced)
        bound = timing_or_free(timing)
        check_lot(question, marks, bound)
        trial = Trial(question, marks, bound)
        self.choice = None
        self.lot = None
        self.price = None
        if trial.passes(tuple(range(len(marks)))):
            self.choice = first_passing(trial, by_price(priced))
            self.lot = Lot([marks[index] for index in self.choice])
            self.price = price_of(priced, self.choice)
        # A bar that was found for a choice with just this price bars that choice with one mark less, too.
        self._bars = tuple([found for found, _ in trial.clashes])

    @property
    def bars(self):
        """Clashes: for each cheaper choice there is one that none of its marks parts."""
        return list(self._bars)


def first_passing(trial, waiting):
    """The first choice that passes; there is one."""
    for choice in waiting:
        if trial.passes(choice):
            break
    return choice


def price_of(priced, choice):
    """The price of a choice."""
    return sum([priced[index][1] for index in choice])


def by_price(priced):
    """All choices, the cheapest ones first."""
    pairs = sorted([(price_of(priced, choice), choice) for choice in all_choices(len(priced))])
    return [choice for _, choice in pairs]


def parting(clash, marks):
    """The indexes of the marks that show something else in the one history of a clash than in the other one."""
    check_marks(marks)
    found = []
    for index, mark in enumerate(marks):
        lot = Lot([mark])
        first = lot.readings(clash.first)
        second = lot.readings(clash.second)
        if first != second:
            found.append(index)
    return tuple(found)


def barred(question, priced, price, bars, timing=None):
    """Whether these bars show that no lot costs less than the price."""
    marks = marks_of(priced)
    bound = timing_or_free(timing)
    check_lot(question, marks, bound)
    for bar in bars:
        if not isinstance(bar, Clash) or not bar.shows(question, Lot([]), bound):
            return False
    parts = [parting(bar, marks) for bar in bars]
    for choice in by_price(priced):
        if price_of(priced, choice) < price and all([any([index in part for index in choice]) for part in parts]):
            return False
    return True


def prices(question, priced, upto):
    """The prices of the cheapest lots with at most 1, 2, .. deeds in a stretch."""
    if not is_integer(upto) or not 1 <= upto <= MOST_LIMITS:
        raise BadNumber(upto)
    marks = marks_of(priced)
    check_lot(question, marks, Timing())
    waiting = by_price(priced)
    found = []
    for most in range(1, upto + 1):
        # What does not suffice with fewer deeds does not suffice with more of them.
        while len(waiting) > 0 and clash_of(question, marks, waiting[0], Timing(most)) is not None:
            waiting = waiting[1:]
        found.append(price_of(priced, waiting[0]) if len(waiting) > 0 else None)
    return found
