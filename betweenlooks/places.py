"""Places: the values of a lot together with the state of a question, as far as they count."""

from betweenlooks.errors import NoDeed, OtherDeeds, TooMany
from betweenlooks.words import LATE_KINDS

MOST_PLACES = 60


def check_same_deeds(question, lot):
    """Raise OtherDeeds if the marks of the lot have other deeds than the question."""
    if len(lot) > 0 and lot[0].machine.deeds != question.deeds:
        raise OtherDeeds(question.deeds, lot[0].machine.deeds)


def places_for(question, lot, timing):
    """The places of a question and a lot, when the errors that come ahead of too many places are not raised."""
    check_same_deeds(question, lot)
    for index, deed in enumerate(timing.owed):
        if deed not in question.deeds:
            raise NoDeed(index)
    return Places(question, lot)


class Places:
    """The places that count, numbered from 0 as they are found; the first one is that of all beginnings.

    `found[k]` is the pair of the values and the state at place k, `rows[k]` tells where the deeds lead from there,
    `shown[k]` the reading, `tells[k]` the answer to a question that was asked from the beginning, `behind[k]` where a
    look leads. `firsts[k]` tells it for the first look: the list of the pairs of a told state, or None, and a place.
    """

    def __init__(self, question, lot):
        self.deeds = question.deeds
        self.is_late = question.kind in LATE_KINDS
        self.found = all_places(question, lot)
        numbers = {}
        for place in self.found:
            numbers[place] = len(numbers)
        self.rows = [[numbers[led] for led in led_by_deeds(question, lot, place)] for place in self.found]
        self.shown = [lot.look(values)[0] for values, _ in self.found]
        self.tells = [question.core.tells[state] for _, state in self.found]
        self.behind = [numbers[behind_look(question, lot, place)] for place in self.found]
        self.firsts = []
        for place in self.found:
            firsts = behind_first_look(question, lot, place)
            self.firsts.append([(told, numbers[led]) for told, led in firsts])


def all_places(question, lot):
    """All places that count, in the order in which they are found."""
    found = [(lot.begin, question.core.start)]
    met = {found[0]: True}
    at = 0
    while at < len(found):
        ways = led_by_deeds(question, lot, found[at]) + [behind_look(question, lot, found[at])]
        for place in ways + [led for _, led in behind_first_look(question, lot, found[at])]:
            if place not in met:
                met[place] = True
                found.append(place)
        if len(found) > MOST_PLACES:
            raise TooMany("places", MOST_PLACES + 1, MOST_PLACES)
        at += 1
    return found


def led_by_deeds(question, lot, place):
    """Where each deed leads a place."""
    values, state = place
    led = []
    for index in range(len(question.deeds)):
        later = tuple([mark.machine.rows[value][index] for mark, value in zip(lot.marks, values)])
        led.append((later, question.core.rows[state][index]))
    return led


def behind_look(question, lot, place):
    """Where a look leads a place."""
    values, state = place
    return (lot.look(values)[1], question.core.start if question.kind == "stretch" else state)


def behind_first_look(question, lot, place):
    """Where the first look leads a place: the pairs of the told state, or None, and the place behind it."""
    values = lot.look(place[0])[1]
    if question.kind == "taken":
        return [(state, (values, state)) for state in range(len(question.core))]
    if question.kind == "joined":
        return [(None, (values, question.core.start))]
    return [(None, behind_look(question, lot, place))]
