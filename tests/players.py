"""What plans tell, reckoned anew from the definitions: runs are gone through one by one, with all that a look has seen."""

from betweenlooks.machines import Machine
from betweenlooks.marks import Lot, Mark
from betweenlooks.plans import Plan

READ = "?"


def shown_row(lot, values):
    return tuple(mark.machine.tells[value] for mark, value in zip(lot.marks, values))


def played(plan, lot, run):
    """The looks of a run as tuples: shown, row, stood, between, torn."""
    values = tuple(mark.machine.start for mark in lot.marks)
    looks, shown, stood, between = [], None, None, 0
    for member in run:
        if member == READ:
            if shown is None:
                shown, stood, between = [], [shown_row(lot, values)], 0
            mark = plan.reads[len(shown)]
            shown.append(lot[mark].machine.tells[values[mark]])
            if lot[mark].rule == "cleared":
                values = values[:mark] + (lot[mark].machine.start,) + values[mark + 1:]
        else:
            at = lot[0].machine.deeds.index(member)
            values = tuple(mark.machine.rows[value][at] for mark, value in zip(lot.marks, values))
            between += 1
        if shown is not None and len(shown) == len(plan.reads):
            row = told_row(plan, shown)
            once = tuple(dict.fromkeys(stood))
            looks.append((tuple(shown), row, once, between, row is not None and row not in once))
            shown = None
        elif shown is not None:
            stood.append(shown_row(lot, values))
    return looks


def told_row(plan, shown):
    """What a look tells whose reads have shown this."""
    fits = all(shown[i] == shown[j] for i, j in plan.same) and all(shown[i] in tells for i, tells in plan.wants)
    return tuple(shown[pick] for pick in plan.picks) if fits else None


def all_looks(plan, lot, most=None, machine=None):
    """Goes through all runs, by their lengths; yields what is known at the end of each look, each such thing once.

    That is a tuple: the length of the run, the row or None, the rows that stood, the deeds in the look, and the tells
    of the machine: at the beginning, at the last read, and at any moment.
    """
    deeds = lot[0].machine.deeds
    start = machine.start if machine else 0
    begin = (tuple(mark.machine.start for mark in lot.marks), start, None, frozenset(), 0, None, frozenset())
    layer, met, length, told = [begin], {begin}, 0, set()
    while layer:
        length += 1
        later = []
        for state in layer:
            for member in (READ, *deeds):
                new, look = state_behind(plan, lot, most, machine, state, member)
                if look is not None and look not in told:
                    told.add(look)
                    yield (length, *look)
                if new is not None and new not in met:
                    met.add(new)
                    later.append(new)
        layer = later


def state_behind(plan, lot, most, machine, state, member):
    """The state behind one more member of a run, and the look if it ends there."""
    values, own, shown, stood, between, first, held = state
    told = machine.tells[own] if machine else None
    if member == READ:
        if shown is None:
            shown, stood, first, held = (), frozenset([shown_row(lot, values)]), told, frozenset([told])
        mark = plan.reads[len(shown)]
        shown += (lot[mark].machine.tells[values[mark]],)
        if lot[mark].rule == "cleared":
            values = values[:mark] + (lot[mark].machine.start,) + values[mark + 1:]
        if len(shown) == len(plan.reads):
            look = (told_row(plan, shown), stood, between, first, told, held)
            return (values, own, None, frozenset(), 0, None, frozenset()), look
    else:
        at = lot[0].machine.deeds.index(member)
        values = tuple(mark.machine.rows[value][at] for mark, value in zip(lot.marks, values))
        own = machine.rows[own][at] if machine else own
        if shown is not None:
            if most is not None and between == most:
                return None, None
            # Without a limit the number of deeds is not counted: there would be no end of it.
            between += most is not None
            held |= {machine.tells[own]} if machine else held
    if shown is not None:
        stood |= {shown_row(lot, values)}
    return (values, own, shown, stood, between, first, held), None


def shortest_torn(plan, lot, most=None):
    """The length of the shortest run that ends with a torn look, or None."""
    for length, row, stood, *_ in all_looks(plan, lot, most):
        if row is not None and row not in stood:
            return length
    return None


def right_tells(plan, lot, machine, when, most=None):
    """For each told row the set of the tells that are right for all looks that tell it."""
    right = {}
    for _, row, _, _, first, last, held in all_looks(plan, lot, most, machine):
        if row is not None:
            here = {"first": {first}, "last": {last}, "some": set(held)}[when]
            right[row] = right.get(row, here) & here
    return right


def count_places(plan, lot, machine=None):
    """How many different tuples of values, with the state of the machine, there are in all runs."""
    begin = (tuple(mark.machine.start for mark in lot.marks), machine.start if machine else 0)
    waiting, met = [(begin, 0)], set()
    while waiting:
        (values, own), k = waiting.pop()
        if ((values, own), k) in met:
            continue
        met.add(((values, own), k))
        for at in range(len(lot[0].machine.deeds)):
            led = tuple(mark.machine.rows[value][at] for mark, value in zip(lot.marks, values))
            waiting.append(((led, machine.rows[own][at] if machine else 0), k))
        mark = plan.reads[k]
        if lot[mark].rule == "cleared":
            values = values[:mark] + (lot[mark].machine.start,) + values[mark + 1:]
        waiting.append(((values, own), (k + 1) % len(plan.reads)))
    return len({place for place, _ in met})


def some_machine(chance, deeds, states, tells="012"):
    """Any machine; the deeds of every second one lead no two states to one state."""
    columns = [[chance.randrange(states) for _ in range(states)] for _ in deeds]
    if chance.random() < 0.5:
        columns = [chance.sample(range(states), states) for _ in deeds]
    rows = [list(row) for row in zip(*columns)]
    return Machine(deeds, rows, [chance.choice(tells) for _ in range(states)])


def some_lot(chance, deeds, marks, states=3, rules=("kept", "kept", "cleared")):
    """Any lot of so many marks."""
    return Lot([Mark(some_machine(chance, deeds, chance.randint(1, states)), chance.choice(rules))
                for _ in range(marks)])


def some_views(chance, deeds, marks, states, tells="01", rules=("kept",)):
    """A lot whose marks all go along with one machine, and show more or less of its state."""
    rows = some_machine(chance, deeds, states).rows
    if chance.random() < 0.5:
        rows = [[(k + 1) % states] + [chance.randrange(states) for _ in deeds[1:]] for k in range(states)]
    return Lot([Mark(Machine(deeds, rows, [chance.choice(tells) for _ in rows]), chance.choice(rules))
                for _ in range(marks)])


def some_plan(chance, marks, reads):
    """Any plan with so many marks and at most so many reads."""
    many = chance.randint(marks, reads)
    row = list(range(marks)) + [chance.randrange(marks) for _ in range(many - marks)]
    chance.shuffle(row)
    picks = [chance.choice([k for k, mark in enumerate(row) if mark == own]) for own in range(marks)]
    pairs = [(i, j) for j in range(many) for i in range(j) if row[i] == row[j]]
    same = chance.sample(pairs, chance.randint(0, len(pairs)))
    wants = []
    if chance.random() < 0.3:
        wants = [(chance.randrange(many), chance.sample("012", chance.randint(1, 3)))
                 for _ in range(chance.randint(1, 2))]
    return Plan(row, picks, same, wants)
