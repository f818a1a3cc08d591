"""Clashes: two histories that look alike and need different answers; and how many deeds may fall between two looks."""

from betweenlooks.histories import History
from betweenlooks.places import check_same_deeds, places_for
from betweenlooks.search import Search
from betweenlooks.timings import Timing, timing_or_free
from betweenlooks.words import is_index


class Clash:
    """Two histories, and the state that is told at the first look of both, for a taken question."""

    def __init__(self, first, second, state=None):
        self.first = first
        self.second = second
        self.state = state

    def __eq__(self, other):
        if not isinstance(other, Clash):
            return NotImplemented
        return self.first == other.first and self.second == other.second and self.state == other.state

    @property
    def looks(self):
        """The number of looks of the first history."""
        return len(self.first)

    def shows(self, question, lot, timing=None):
        """Whether this is a clash for a question, a lot and a timing."""
        check_same_deeds(question, lot)
        if len(self.first) == 0 or len(self.first) != len(self.second):
            return False
        if question.kind == "taken" and not is_index(self.state, len(question.core)):
            return False
        for history in (self.first, self.second):
            if not all([deed in question.deeds for deed in history.whole]):
                return False
            if not timing_or_free(timing).kept(history, question.kind):
                return False
        if lot.readings(self.first) != lot.readings(self.second):
            return False
        return question.due(self.first, self.state)[-1] != question.due(self.second, self.state)[-1]


def suffices(question, lot, timing=None):
    """Whether there is no clash."""
    return clash(question, lot, timing) is None


def clash(question, lot, timing=None):
    """A clash with the fewest looks, or None."""
    bound = timing_or_free(timing)
    return clash_at(places_for(question, lot, bound), bound)


def clash_at(places, timing):
    """A clash with the fewest looks for the places of a question and a lot, or None."""
    found = Search(places, timing).unlike()
    if found is None:
        return None
    first, second, told = found
    return Clash(History(first), History(second), told)


def rate(question, lot, *, owed=()):
    """How many deeds a stretch may have so that the lot suffices, and a clash under one more; None twice if any may."""
    free = Timing(None, owed)
    places = places_for(question, lot, free)
    found = clash_at(places, free)
    if found is None:
        return (None, None)
    low = 0
    high = len(places.found)
    # No stretch needs more deeds than there are places to lead somewhere: under this limit there is a clash, too.
    while high - low > 1:
        middle = (low + high) // 2
        if clash_at(places, Timing(middle, owed)) is None:
            low = middle
        else:
            high = middle
    return (low, clash_at(places, Timing(high, owed)))
