"""Tables: rows of states and a tell for each state, with state 0 as the start, and no limit but one on the states."""

from betweenlooks.errors import TooMany

MOST_STATES = 60


def shrunk(rows, tells):
    """The rows and tells with the fewest states that tell the same, as a pair of lists.

    Each state is reached from state 0, and the states are numbered in the order of their first rows; so are the states
    of the answer.
    """
    groups = alike(rows, tells)
    kept = []
    for state, group in enumerate(groups):
        if group == len(kept):
            kept.append(state)
    return ([[groups[led] for led in rows[state]] for state in kept], [tells[state] for state in kept])


def alike(rows, tells):
    """For each state a number; two states have the same number exactly if they are not apart."""
    groups = numbered(tells)
    while True:
        # Different numbers mean that states are apart, in each round: there is no need to find out all of it.
        if len(set(groups)) > MOST_STATES:
            raise TooMany("states", MOST_STATES + 1, MOST_STATES)
        finer = numbered([(groups[state], tuple([groups[led] for led in row])) for state, row in enumerate(rows)])
        if finer == groups:
            return groups
        groups = finer


def numbered(labels):
    """For each label its number, where different labels are numbered as they come."""
    numbers = {}
    for label in labels:
        if label not in numbers:
            numbers[label] = len(numbers)
    return [numbers[label] for label in labels]
