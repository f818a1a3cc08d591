"""Questions: what has to be answered at each look of a history."""

from heapq import heappop, heappush

from betweenlooks.errors import BadKind, BadState, NoDeed, OtherDeeds, OtherKind
from betweenlooks.histories import History
from betweenlooks.words import KINDS, LATE_KINDS, is_index


class Question:
    """A machine, and the kind that tells which deeds it does for a look. The core is the least machine."""

    def __init__(self, machine, kind="carried"):
        if kind not in KINDS:
            raise BadKind(kind)
        self.machine = machine
        self.kind = kind
        self.core = machine.least()
        self.deeds = machine.deeds

    @classmethod
    def of(cls, fact, deeds, kind="carried"):
        """The question whose machine tells what the fact tells."""
        return cls(fact.machine_for(deeds), kind)

    def __eq__(self, other):
        if not isinstance(other, Question):
            return NotImplemented
        return self.kind == other.kind and self.core == other.core

    def __mul__(self, other):
        if not isinstance(other, Question):
            return NotImplemented
        if self.deeds != other.deeds:
            raise OtherDeeds(self.deeds, other.deeds)
        if self.kind != other.kind:
            raise OtherKind(self.kind, other.kind)
        return Question(self.machine * other.machine, self.kind)

    def standing(self, history, state=0):
        """The states of the core at the looks."""
        for index, deed in enumerate(history.whole):
            if deed not in self.deeds:
                raise NoDeed(index)
        if self.kind == "taken" and not is_index(state, len(self.core)):
            raise BadState(state)
        states = []
        for stretch in history:
            if len(states) == 0 and self.kind in LATE_KINDS:
                states.append(state if self.kind == "taken" else self.core.start)
            elif len(states) == 0 or self.kind == "stretch":
                states.append(self.core.after(stretch))
            else:
                states.append(self.core.after(stretch, states[-1]))
        return states

    def due(self, history, state=0):
        """The answers at the looks."""
        return [self.core.tells[standing] for standing in self.standing(history, state)]

    def parting(self, other):
        """A history with the fewest looks and deeds at whose last look the answers of two questions differ, or None."""
        if self.deeds != other.deeds:
            raise OtherDeeds(self.deeds, other.deeds)
        if self.kind == "taken" or other.kind == "taken":
            raise BadKind("taken")
        return first_difference(self, other)


def first_difference(one, other):
    """A history with the fewest looks, and then with the fewest deeds, after which two questions differ, or None.

    A moment is a tuple: whether there was a look, and the states of both questions. Each moment that is found is kept
    with the number of the moment ahead of it and the deed that led to it; the deed is None for a look.
    """
    found = [((False, one.core.start, other.core.start), None, None)]
    queue = [(0, 0, 0)]
    done = {}
    while len(queue) > 0:
        looks, deeds, number = heappop(queue)
        moment = found[number][0]
        if moment in done:
            continue
        done[moment] = True
        if one.core.tells[moment[1]] != other.core.tells[moment[2]]:
            return history_to(found, number)
        found.append((moment_behind(one, other, moment, None), number, None))
        heappush(queue, (looks + 1, deeds, len(found) - 1))
        for deed in one.deeds:
            found.append((moment_behind(one, other, moment, deed), number, deed))
            heappush(queue, (looks, deeds + 1, len(found) - 1))
    return None


def moment_behind(one, other, moment, deed):
    """The moment behind a deed, or behind a look if the deed is None."""
    begun, a, b = moment
    return (begun or deed is None, state_behind(one, begun, a, deed), state_behind(other, begun, b, deed))


def state_behind(question, begun, state, deed):
    """The state of a question behind a deed, or behind a look if the deed is None."""
    if deed is None:
        return question.core.start if question.kind == "stretch" else state
    if question.kind == "joined" and not begun:
        return state
    return question.core.after((deed,), state)


def history_to(found, number):
    """The history that leads to a moment, and ends with a look there."""
    steps = [None]
    while number > 0:
        _, ahead, deed = found[number]
        steps.append(deed)
        number = ahead
    stretches = []
    stretch = []
    for deed in steps[::-1]:
        if deed is None:
            stretches.append(stretch)
            stretch = []
        else:
            stretch.append(deed)
    return History(stretches)
