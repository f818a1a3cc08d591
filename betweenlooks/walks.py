"""Walks through all states that rows lead to, in the order of the rows."""


def next_layer(deeds, tables, layer, met):
    """Where one deed more leads the tuples of states in `layer`, as far as it was not met before.

    The table at each place of `tables` tells where the deeds lead the state at this place of a tuple. The answer is a
    dict, in the order of the rows, from each new tuple to its step: the pair of the tuple ahead of it and the deed.
    """
    steps = {}
    for states in layer:
        for index, deed in enumerate(deeds):
            led = tuple([table[state][index] for table, state in zip(tables, states)])
            if led not in met and led not in steps:
                steps[led] = (states, deed)
    return steps


def first_steps(deeds, tables, begin, most=None):
    """The dict of all tuples of states that rows lead `begin` to, with their steps, in the order of the first rows.

    It is broken off when it has more than `most` entries. The step of `begin` is None.
    """
    found = {begin: None}
    layer = {begin: None}
    # Rows are found by length and then by the places of their deeds: the first row found is the first one of all.
    while len(layer) > 0 and (most is None or len(found) <= most):
        layer = next_layer(deeds, tables, layer, found)
        for states, step in layer.items():
            found[states] = step
    return found


def row_to(found, states):
    """The row whose steps lead to a tuple of states that was found."""
    deeds = []
    step = found[states]
    while step is not None:
        deeds.append(step[1])
        step = found[step[0]]
    return tuple(deeds[::-1])


def next_places(places, many):
    """The places of the deeds of the row behind the row with these places; there are so many deeds."""
    at = len(places) - 1
    while at >= 0 and places[at] == many - 1:
        at -= 1
    if at < 0:
        return [0] * (len(places) + 1)
    return places[:at] + [places[at] + 1] + [0] * (len(places) - at - 1)
