"""Acts: what the rows of deeds do to a machine."""

from math import lcm

from betweenlooks.errors import BadAct, BadNumber, BadState, TooMany, Uneven
from betweenlooks.walks import first_steps, row_to
from betweenlooks.words import is_index, is_integer

MOST_ACTS = 300
MOST_TIMES = 10 ** 30


class Act:
    """An act: the tuple of the states to which it leads the states from 0 on."""

    def __init__(self, states):
        if not is_act(states):
            raise BadAct(states)
        self.states = tuple(states)
        self.image = tuple(sorted(set(states)))
        self.rank = len(self.image)
        self.is_swap = self.rank == len(self.states)
        self.cycle = cycle_of(self.states)

    def __eq__(self, other):
        if not isinstance(other, Act):
            return NotImplemented
        return self.states == other.states

    def __lt__(self, other):
        if not isinstance(other, Act):
            return NotImplemented
        return self.states < other.states

    def __le__(self, other):
        if not isinstance(other, Act):
            return NotImplemented
        return self.states <= other.states

    def __mul__(self, other):
        if not isinstance(other, Act):
            return NotImplemented
        if len(self.states) != len(other.states):
            raise Uneven(len(self.states), len(other.states))
        return Act(followed(self.states, other.states))

    def __getitem__(self, at):
        if not is_index(at, len(self.states)):
            raise BadState(at)
        return self.states[at]

    def __iter__(self):
        raise TypeError("an act is not iterated over")

    def times(self, number):
        """The act that is this one so many times."""
        if not is_integer(number) or not 0 <= number <= MOST_TIMES:
            raise BadNumber(number)
        done = tuple(range(len(self.states)))
        power = self.states
        left = number
        while left > 0:
            if left % 2 == 1:
                done = followed(done, power)
            power = followed(power, power)
            left = left // 2
        return Act(done)


def is_act(states):
    """Whether a value is the tuple of the states of an act."""
    if not isinstance(states, tuple) or len(states) == 0:
        return False
    return all([is_index(state, len(states)) for state in states])


def followed(states, others):
    """The states to which the second act leads what the first one leads to."""
    return tuple([others[state] for state in states])


def cycle_of(states):
    """The least i and for it the least c from 1 on for which i + c times the act is i times the act."""
    ways = [0 for _ in states]
    for state in states:
        ways[state] = ways[state] + 1
    layer = [state for state, many in enumerate(ways) if many == 0]
    ahead = 0
    # The states that lie on no ring go, layer by layer: the longest way to a ring has one state in each layer.
    while len(layer) > 0:
        ahead += 1
        later = []
        for state in layer:
            ways[states[state]] = ways[states[state]] - 1
            if ways[states[state]] == 0:
                later.append(states[state])
        layer = later
    return (ahead, ring_length(states, ways))


def ring_length(states, ways):
    """The least number of times after which all states on rings are back; `ways` is 0 for all other states."""
    length = 1
    met = {}
    for first, many in enumerate(ways):
        size = 0
        state = first
        while many > 0 and state not in met:
            met[state] = True
            size += 1
            state = states[state]
        if size > 0:
            length = lcm(length, size)
    return length


def act_of(machine, row):
    """What the row does to the least machine."""
    least = machine.least()
    return Act(tuple([least.after(row, state) for state in range(len(least))]))


def acts(machine):
    """The pairs of an act and the first row with this act, in the order of the rows."""
    least = machine.least()
    tables = [least.rows] * len(least)
    found = first_steps(least.deeds, tables, tuple(range(len(least))), MOST_ACTS)
    if len(found) > MOST_ACTS:
        raise TooMany("acts", MOST_ACTS + 1, MOST_ACTS)
    return [(Act(states), row_to(found, states)) for states in found]
