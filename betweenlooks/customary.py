"""Customary marks: which machine a line names, and whether such marks part all rows that have different acts."""

from betweenlooks.acts import acts
from betweenlooks.customs import CutBy, custom_way
from betweenlooks.errors import BadWay
from betweenlooks.lines import read_line
from betweenlooks.machines import Machine
from betweenlooks.tables import shrunk
from betweenlooks.telling import table_by
from betweenlooks.words import check_deeds

WAYS = ("latches", "last", "first", "ends", "counts")


def customary(deeds, line):
    """The machine over these deeds that a line names."""
    check_deeds(deeds)
    cut, kind, numbers, groups = read_line(deeds, line)
    way = custom_way(kind, numbers, groups)
    rows, tells = table_by(way if cut is None else CutBy(cut, way), deeds, [])
    rows, tells = shrunk(rows, tells)
    return Machine(deeds, rows, tells)


def alone(machine, way):
    """Two rows that these customary marks do not part though their acts are different, or None."""
    if way not in WAYS:
        raise BadWay(way)
    # Too many acts are refused, though they need not be known here.
    acts(machine)
    core = machine.least()
    for one, other in rows_alike(way, doing_deeds(core)):
        if ends_of(core, one) != ends_of(core, other):
            return (one, other)
    return None


def ends_of(core, row):
    """The states to which the row leads all states: its act."""
    return [core.after(row, state) for state in range(len(core))]


def doing_deeds(core):
    """The deeds that do something to the least machine."""
    return [deed for deed in core.deeds if ends_of(core, (deed,)) != list(range(len(core)))]


def rows_alike(way, deeds):
    """Pairs of rows that the marks of this way do not part.

    If both rows of each pair have the same act, then so have any two rows that the marks do not part: deed by deed, the
    one can be made into the other.
    """
    swapped = [((a, b), (b, a)) for a in deeds for b in deeds if a < b]
    if way == "counts":
        # As often as its mark begins anew, a single deed has the same act; so only the order is left.
        return swapped
    if way == "latches":
        return [((deed,), (deed, deed)) for deed in deeds] + swapped
    if way == "last":
        return [((a, b), (b,)) for a in deeds for b in deeds]
    if way == "first":
        return [((a, b), (a,)) for a in deeds for b in deeds]
    inner = [((a, c, b), (a, b)) for a in deeds for b in deeds for c in deeds]
    return [((deed,), (deed, deed)) for deed in deeds] + inner


def memory(machine):
    """How many last deeds part all rows with different acts, and None; or None and three rows that show why none do."""
    acts(machine)
    core = machine.least()
    deeds = doing_deeds(core)
    begins = {}
    for deed in deeds:
        for state in range(len(core)):
            led = core.after((deed,), state)
            if led != state:
                begins.setdefault((led, state), deed)
    steps = steps_apart(core, deeds, begins)
    needed = deeds_until_one(steps)
    for pair in begins:
        if pair not in needed:
            common, again = rows_round(steps, needed, pair)
            return (None, ((begins[pair],), common, again))
    return (max([needed[pair] for pair in begins], default=0), None)


def steps_apart(core, deeds, begins):
    """For each pair of different states to which rows lead the given pairs: the list of the deeds that do so again.

    Each of these deeds stands in a tuple with the pair to which it leads.
    """
    steps = {}
    waiting = list(begins)
    while len(waiting) > 0:
        one, other = waiting.pop()
        if (one, other) in steps:
            continue
        led = [(deed, (core.after((deed,), one), core.after((deed,), other))) for deed in deeds]
        steps[(one, other)] = [(deed, pair) for deed, pair in led if pair[0] != pair[1]]
        waiting.extend([pair for _, pair in steps[(one, other)]])
    return steps


def deeds_until_one(steps):
    """For each pair that becomes one state whatever deeds come: the least number of deeds behind which it has."""
    ahead = {pair: [] for pair in steps}
    left = {}
    for pair in steps:
        left[pair] = len(steps[pair])
        for _, led in steps[pair]:
            ahead[led].append(pair)
    needed = {}
    layer = [pair for pair in steps if left[pair] == 0]
    many = 1
    # A pair comes into a layer with the last one of the pairs behind it: so that one needs the most deeds.
    while len(layer) > 0:
        later = []
        for pair in layer:
            needed[pair] = many
            for before in ahead[pair]:
                left[before] = left[before] - 1
                if left[before] == 0:
                    later.append(before)
        layer = later
        many += 1
    return needed


def rows_round(steps, needed, pair):
    """A row that leads a pair to a pair, and a row that leads that one back to itself; both never become one state."""
    places = {}
    deeds = []
    while pair not in places:
        places[pair] = len(deeds)
        # Some deed leads on to a pair that need not become one: otherwise this one would become one, too.
        deed, pair = [step for step in steps[pair] if step[1] not in needed][0]
        deeds.append(deed)
    return (tuple(deeds[:places[pair]]), tuple(deeds[places[pair]:]))
