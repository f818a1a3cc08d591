"""Walks through all states that rows lead to, in the order of the rows."""


def first_rows(deeds, tables, begin):
    """Yield all tuples of states that rows lead `begin` to, each with its first row.

    The table at each place of `tables` tells where the deeds lead the state at this place of the tuple.
    """
    met = {begin: True}
    found = [(begin, ())]
    at = 0
    while at < len(found):
        states, row = found[at]
        yield states, row
        at += 1
        # Rows are found by length and then by the places of their deeds: the first row found is the first one of all.
        for index, deed in enumerate(deeds):
            led = tuple([table[state][index] for table, state in zip(tables, states)])
            if led not in met:
                met[led] = True
                found.append((led, row + (deed,)))


def next_places(places, many):
    """The places of the deeds of the row behind the row with these places; there are so many deeds."""
    at = len(places) - 1
    while at >= 0 and places[at] == many - 1:
        at -= 1
    if at < 0:
        return [0] * (len(places) + 1)
    return places[:at] + [places[at] + 1] + [0] * (len(places) - at - 1)
