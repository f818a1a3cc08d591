"""Telling: what a fact tells after a row, and which machine tells the same.

A fact is asked only for its `parts`, the facts that it is made of, and for its `way`. Facts may be made of facts to
many levels: here they are laid out in a list, so that no call leads to a deeper one for each level.
"""

from betweenlooks.errors import TooMany
from betweenlooks.machines import Machine
from betweenlooks.tables import MOST_STATES, shrunk
from betweenlooks.words import LONGEST_TELL, check_deeds, check_row


def laid_out(fact):
    """The list of a fact and all facts that it is made of, and the list of the places of the parts of each of them.

    Each fact stands ahead of its parts.
    """
    facts = [fact]
    places = []
    at = 0
    while at < len(facts):
        parts = facts[at].parts
        places.append([len(facts) + index for index in range(len(parts))])
        facts.extend(parts)
        at += 1
    return (facts, places)


def told_by(fact, row):
    """What a fact tells after the row."""
    check_row(row)
    facts, places = laid_out(fact)
    fresh = beginnings(facts, places, row)
    told = [[] for _ in facts]
    for k in reversed(range(len(facts))):
        told[k] = told_along(facts[k].way, row, fresh[k], [told[part] for part in places[k]])
    return told[0][-1]


def beginnings(facts, places, row):
    """For each fact, and for each deed of the row, whether the fact begins anew behind the deed."""
    fresh = [[] for _ in facts]
    fresh[0] = [False for _ in row]
    for k, parts in enumerate(places):
        way = facts[k].way
        for part in parts:
            fresh[part] = [anew or way.cuts(deed) for anew, deed in zip(fresh[k], row)]
    return fresh


def told_along(way, row, fresh, parts):
    """What is told after each number of the first deeds of the row; `parts` are the same lists of the parts."""
    now = tuple([tells[0] for tells in parts])
    memory = way.opening(now)
    told = [way.says(memory, now)]
    for at, deed in enumerate(row):
        before = now
        now = tuple([tells[at + 1] for tells in parts])
        memory = way.opening(now) if fresh[at] else way.moved(memory, deed, before, now)
        told.append(way.says(memory, now))
    check_lengths(told)
    return told


def check_lengths(tells):
    """Raise TooMany if one of these tells is too long."""
    for tell in tells:
        if len(tell) > LONGEST_TELL:
            raise TooMany("characters", LONGEST_TELL + 1, LONGEST_TELL)


def machine_by(fact, deeds):
    """The least machine that tells after each row of these deeds what the fact tells."""
    check_deeds(deeds)
    facts, places = laid_out(fact)
    tables = [None for _ in facts]
    long_tells = []
    for k in reversed(range(len(facts))):
        rows, tells = table_by(facts[k].way, deeds, [tables[part] for part in places[k]])
        tables[k] = shrunk(rows, tells)
        long_tells.extend([tell for tell in tells if len(tell) > LONGEST_TELL][:1])
        for part in places[k]:
            tables[part] = None
    # Too many states of any fact come ahead of too long a tell of any fact.
    check_lengths(long_tells)
    rows, tells = tables[0]
    return Machine(deeds, rows, tells)


def table_by(way, deeds, parts):
    """The rows and the tells of a table that does what the way says, when `parts` are the tables of the parts.

    A state is a pair: the memory of the way and the tuple of the states of the parts.
    """
    begin = tuple([0 for _ in parts])
    first = (way.opening(tells_in(parts, begin)), begin)
    numbers = {first: 0}
    found = [first]
    rows = []
    tells = []
    different = {}
    while len(rows) < len(found):
        memory, states = found[len(rows)]
        before = tells_in(parts, states)
        tells.append(way.says(memory, before))
        different[tells[-1]] = True
        if len(different) > MOST_STATES:
            raise TooMany("states", MOST_STATES + 1, MOST_STATES)
        row = []
        for index, deed in enumerate(deeds):
            led = begin if way.cuts(deed) else tuple([table[0][at][index] for table, at in zip(parts, states)])
            later = (way.moved(memory, deed, before, tells_in(parts, led)), led)
            if later not in numbers:
                numbers[later] = len(found)
                found.append(later)
            row.append(numbers[later])
        rows.append(row)
    return (rows, tells)


def tells_in(tables, states):
    """What each table tells in its state."""
    return tuple([table[1][state] for table, state in zip(tables, states)])


def same_facts(one, other):
    """Whether two facts are of one class and have equal attributes, at every depth."""
    level = [(one, other)]
    while len(level) > 0:
        if not all([a.word == b.word and a.plain == b.plain for a, b in level]):
            return False
        level = [pair for a, b in level for pair in zip(a.parts, b.parts)]
    return True
