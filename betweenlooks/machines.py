"""Machines: deeds lead them from state to state, and in each state they tell something."""

from betweenlooks.errors import BadRow, BadState, BadTell, NoDeed, NoEntry, OtherDeeds, TooMany, Uneven
from betweenlooks.walks import first_rows, next_places
from betweenlooks.words import LONGEST_TELL, check_deeds, is_index, is_tell

MOST_STATES = 60


class Machine:
    """A machine with deeds, a row of states and a tell for each state, and a start."""

    def __init__(self, deeds, rows, tells, start=0):
        check_deeds(deeds)
        check_rows(rows, len(deeds))
        check_tells(tells, len(rows))
        if not is_index(start, len(rows)):
            raise BadState(start)
        self.deeds = tuple(deeds)
        self.rows = tuple([tuple(row) for row in rows])
        self.tells = tuple(tells)
        self.start = start

    def __len__(self):
        return len(self.rows)

    def __eq__(self, other):
        if not isinstance(other, Machine):
            return NotImplemented
        if self.deeds != other.deeds or self.rows != other.rows:
            return False
        return self.tells == other.tells and self.start == other.start

    def __mul__(self, other):
        if not isinstance(other, Machine):
            return NotImplemented
        if self.deeds != other.deeds:
            raise OtherDeeds(self.deeds, other.deeds)
        return side_by_side(self, other)

    def path(self, row, state=None):
        """The states on the way of the row, from the state or from the start, the first one included."""
        first = self.start if state is None else state
        if not is_index(first, len(self.rows)):
            raise BadState(state)
        states = [first]
        for index, deed in enumerate(row):
            if deed not in self.deeds:
                raise NoDeed(index)
            states.append(self.rows[states[-1]][self.deeds.index(deed)])
        return states

    def after(self, row, state=None):
        """The state to which the row leads the state or the start."""
        return self.path(row, state)[-1]

    def told(self, row):
        """What the machine tells after the row."""
        return self.tells[self.after(row)]

    def all_rows(self):
        """Yield all rows in their order, without an end."""
        places = []
        while True:
            yield tuple([self.deeds[place] for place in places])
            places = next_places(places, len(self.deeds))

    def reached(self):
        """The pairs of a reached state and the first row that leads to it, in the order of the rows."""
        tables = (self.rows,)
        begin = (self.start,)
        return [(states[0], row) for states, row in first_rows(self.deeds, tables, begin)]

    def apart(self, a, b):
        """The first row that leads two states to different tells, or None."""
        for state in (a, b):
            if not is_index(state, len(self.rows)):
                raise BadState(state)
        return first_parting(self, a, self, b)

    def parting(self, other):
        """The first row after which two machines tell different things, or None."""
        if self.deeds != other.deeds:
            raise OtherDeeds(self.deeds, other.deeds)
        return first_parting(self, self.start, other, other.start)

    def least(self):
        """The machine with the fewest states that tells the same after every row."""
        groups = alike(self.rows, self.tells)
        numbers = {}
        kept = []
        for state, _ in self.reached():
            if groups[state] not in numbers:
                numbers[groups[state]] = len(numbers)
                kept.append(state)
        rows = [[numbers[groups[led]] for led in self.rows[state]] for state in kept]
        return Machine(self.deeds, rows, [self.tells[state] for state in kept])

    def telling(self, table):
        """The machine with each tell replaced by the value that the table has under it."""
        for tell in self.tells:
            if tell not in table:
                raise NoEntry(tell)
        return Machine(self.deeds, self.rows, [table[tell] for tell in self.tells], self.start)


def check_rows(rows, many):
    """Raise an error unless these rows lead all states to states, by so many deeds."""
    if len(rows) == 0:
        raise BadRow(0)
    if len(rows) > MOST_STATES:
        raise TooMany("states", len(rows), MOST_STATES)
    for index, row in enumerate(rows):
        if not isinstance(row, (list, tuple)) or len(row) != many:
            raise BadRow(index)
        if not all([is_index(state, len(rows)) for state in row]):
            raise BadRow(index)


def check_tells(tells, many):
    """Raise an error unless these are so many tells."""
    for index, tell in enumerate(tells):
        if not is_tell(tell):
            raise BadTell(index)
    if len(tells) != many:
        raise Uneven(len(tells), many)


def first_parting(one, a, other, b):
    """The first row after which one machine from a and another one from b tell different things, or None."""
    deeds = one.deeds
    tables = (one.rows, other.rows)
    begin = (a, b)
    for (mine, theirs), row in first_rows(deeds, tables, begin):
        if one.tells[mine] != other.tells[theirs]:
            return row
    return None


def alike(rows, tells):
    """For each state a number; two states have the same number exactly if they are not apart."""
    groups = numbered(tells)
    while True:
        finer = numbered([(groups[state], tuple([groups[led] for led in row])) for state, row in enumerate(rows)])
        if finer == groups:
            return groups
        groups = finer


def numbered(labels):
    """For each label its number, where different labels are numbered as they come."""
    numbers = {}
    for label in labels:
        if label not in numbers:
            numbers[label] = len(numbers)
    return [numbers[label] for label in labels]


def side_by_side(one, other):
    """The machine that does what two machines with the same deeds do."""
    deeds = one.deeds
    tables = (one.rows, other.rows)
    begin = (one.start, other.start)
    numbers = {}
    for pair, _ in first_rows(deeds, tables, begin):
        numbers[pair] = len(numbers)
        if len(numbers) > MOST_STATES:
            raise TooMany("states", MOST_STATES + 1, MOST_STATES)
    tells = [one.tells[a] + "/" + other.tells[b] for a, b in numbers]
    for tell in tells:
        if len(tell) > LONGEST_TELL:
            raise TooMany("characters", LONGEST_TELL + 1, LONGEST_TELL)
    rows = [[numbers[led] for led in zip(one.rows[a], other.rows[b])] for a, b in numbers]
    return Machine(deeds, rows, tells)
