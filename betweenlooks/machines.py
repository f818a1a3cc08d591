"""Machines: deeds lead them from state to state, and in each state they tell something."""

from betweenlooks.errors import BadRow, BadState, BadTell, NoDeed, NoEntry, OtherDeeds, TooMany, Uneven
from betweenlooks.tables import MOST_STATES, shrunk
from betweenlooks.walks import first_steps, next_layer, next_places, row_to
from betweenlooks.words import LONGEST_TELL, check_deeds, is_index, is_tell


class Machine:
    """A machine with deeds, a row of states and a tell for each state, and a start."""

    def __init__(self, deeds, rows, tells, start=0):
        check_deeds(deeds)
        check_rows(rows, len(deeds))
        check_tells(tells, len(rows))
        if not is_index(start, len(rows)):
            raise BadState(start)
        self.deeds = tuple(deeds)
        self.rows = tuple([tuple(row) for row in rows])
        self.tells = tuple(tells)
        self.start = start

    def __len__(self):
        return len(self.rows)

    def __eq__(self, other):
        if not isinstance(other, Machine):
            return NotImplemented
        if self.deeds != other.deeds or self.rows != other.rows:
            return False
        return self.tells == other.tells and self.start == other.start

    def __mul__(self, other):
        if not isinstance(other, Machine):
            return NotImplemented
        if self.deeds != other.deeds:
            raise OtherDeeds(self.deeds, other.deeds)
        return side_by_side(self, other)

    def path(self, row, state=None):
        """The states on the way of the row, from the state or from the start, the first one included."""
        first = self.start if state is None else state
        if not is_index(first, len(self.rows)):
            raise BadState(state)
        states = [first]
        for index, deed in enumerate(row):
            if deed not in self.deeds:
                raise NoDeed(index)
            states.append(self.rows[states[-1]][self.deeds.index(deed)])
        return states

    def after(self, row, state=None):
        """The state to which the row leads the state or the start."""
        return self.path(row, state)[-1]

    def told(self, row):
        """What the machine tells after the row."""
        return self.tells[self.after(row)]

    def all_rows(self):
        """Yield all rows in their order, without an end."""
        places = []
        while True:
            yield tuple([self.deeds[place] for place in places])
            places = next_places(places, len(self.deeds))

    def reached(self):
        """The pairs of a reached state and the first row that leads to it, in the order of the rows."""
        found = first_steps(self.deeds, (self.rows,), (self.start,))
        return [(states[0], row_to(found, states)) for states in found]

    def apart(self, a, b):
        """The first row that leads two states to different tells, or None."""
        for state in (a, b):
            if not is_index(state, len(self.rows)):
                raise BadState(state)
        return first_parting(self, a, self, b)

    def parting(self, other):
        """The first row after which two machines tell different things, or None."""
        if self.deeds != other.deeds:
            raise OtherDeeds(self.deeds, other.deeds)
        return first_parting(self, self.start, other, other.start)

    def least(self):
        """The machine with the fewest states that tells the same after every row."""
        numbers = {}
        for state, _ in self.reached():
            numbers[state] = len(numbers)
        rows = [[numbers[led] for led in self.rows[state]] for state in numbers]
        rows, tells = shrunk(rows, [self.tells[state] for state in numbers])
        return Machine(self.deeds, rows, tells)

    def telling(self, table):
        """The machine with each tell replaced by the value that the table has under it."""
        for tell in self.tells:
            if tell not in table:
                raise NoEntry(tell)
        return Machine(self.deeds, self.rows, [table[tell] for tell in self.tells], self.start)


def check_rows(rows, many):
    """Raise an error unless these rows lead all states to states, by so many deeds."""
    if len(rows) == 0:
        raise BadRow(0)
    if len(rows) > MOST_STATES:
        raise TooMany("states", len(rows), MOST_STATES)
    for index, row in enumerate(rows):
        if not isinstance(row, (list, tuple)) or len(row) != many:
            raise BadRow(index)
        if not all([is_index(state, len(rows)) for state in row]):
            raise BadRow(index)


def check_tells(tells, many):
    """Raise an error unless these are so many tells."""
    for index, tell in enumerate(tells):
        if not is_tell(tell):
            raise BadTell(index)
    if len(tells) != many:
        raise Uneven(len(tells), many)


def first_parting(one, a, other, b):
    """The first row after which one machine from a and another one from b tell different things, or None."""
    met = {(a, b): None}
    layer = {(a, b): None}
    while len(layer) > 0:
        for mine, theirs in layer:
            if one.tells[mine] != other.tells[theirs]:
                return row_to(met, (mine, theirs))
        layer = next_layer(one.deeds, (one.rows, other.rows), layer, met)
        for pair, step in layer.items():
            met[pair] = step
    return None


def side_by_side(one, other):
    """The machine that does what two machines with the same deeds do."""
    begin = (one.start, other.start)
    numbers = {}
    for pair in first_steps(one.deeds, (one.rows, other.rows), begin, MOST_STATES):
        numbers[pair] = len(numbers)
    if len(numbers) > MOST_STATES:
        raise TooMany("states", MOST_STATES + 1, MOST_STATES)
    tells = [one.tells[a] + "/" + other.tells[b] for a, b in numbers]
    for tell in tells:
        if len(tell) > LONGEST_TELL:
            raise TooMany("characters", LONGEST_TELL + 1, LONGEST_TELL)
    rows = [[numbers[led] for led in zip(one.rows[a], other.rows[b])] for a, b in numbers]
    return Machine(one.deeds, rows, tells)
