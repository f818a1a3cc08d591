"""What watchers can know, reckoned with sets of places: another way to the answers about clashes."""

from betweenlooks.acts import acts
from betweenlooks.histories import History
from betweenlooks.machines import Machine
from betweenlooks.marks import Lot, Mark
from betweenlooks.questions import Question
from betweenlooks.timings import Timing

KINDS = ("carried", "stretch", "joined", "taken")
RULES = ("kept", "cleared")
LATE = ("joined", "taken")


def deed_led(question, lot, place, index):
    """Where the deed with this index leads a place."""
    values, state = place
    return (tuple(mark.machine.rows[v][index] for mark, v in zip(lot.marks, values)), question.core.rows[state][index])


def reading(lot, place):
    return tuple(mark.machine.tells[v] for mark, v in zip(lot.marks, place[0]))


def looked(lot, place):
    """The values behind a look."""
    return tuple(m.machine.start if m.rule == "cleared" else v for m, v in zip(lot.marks, place[0]))


def count_places(question, lot):
    """How many places count."""
    waiting = [(lot.begin, question.core.start)]
    met = set()
    while waiting:
        place = waiting.pop()
        if place in met:
            continue
        met.add(place)
        waiting += [deed_led(question, lot, place, index) for index in range(len(question.deeds))]
        values = looked(lot, place)
        states = {"carried": [place[1]], "stretch": [0], "joined": [place[1], 0],
                  "taken": [place[1], *range(len(question.core))]}[question.kind]
        waiting += [(values, state) for state in states]
    return len(met)


def ends(question, lot, begins, timing):
    """All places at the ends of the stretches that begin at one of these places."""
    inner, behind_owed, level, length = set(begins), set(), set(begins), 0
    while level and (timing.most is None or length < timing.most):
        later = set()
        for place in level:
            for index, deed in enumerate(question.deeds):
                (behind_owed if deed in timing.owed else later).add(deed_led(question, lot, place, index))
        level = later - inner
        inner |= later
        length += 1
    return inner | behind_owed


def by_reading(lot, places):
    groups = {}
    for place in places:
        groups.setdefault(reading(lot, place), set()).add(place)
    return groups


def fewest_looks(question, lot, timing=None):
    """The number of looks of the shortest clash, or None."""
    timing = timing or Timing()
    begin = {(lot.begin, 0)}
    kind = question.kind
    if kind in LATE:
        groups = by_reading(lot, ends(question, lot, begin, Timing())).values()
        told = range(len(question.core)) if kind == "taken" else [0]
        layer = {frozenset((looked(lot, place), state) for place in group) for group in groups for state in told}
        looks = 1
    else:
        layer, looks = {frozenset(begin)}, 0
    met = set(layer)
    while layer:
        looks += 1
        later = set()
        for known in layer:
            for group in by_reading(lot, ends(question, lot, known, timing)).values():
                if len({question.core.tells[state] for _, state in group}) > 1:
                    return looks
                later.add(frozenset((looked(lot, place), 0 if kind == "stretch" else place[1]) for place in group))
        layer = later - met
        met |= layer
    return None


class Knower:
    """What a watcher knows, reckoned with sets of places."""

    def __init__(self, question, lot, timing=None, state=None):
        self.question, self.lot, self.timing, self.state = question, lot, timing or Timing(), state
        self.now, self.answers, self.states = None, (), ()

    def groups(self):
        """For each reading that may come next: the places at this look, and those directly behind it."""
        late = self.question.kind in LATE
        begins = {(self.lot.begin, 0)} if self.now is None else self.now
        timing = Timing() if self.now is None and late else self.timing
        found = {}
        for shown, places in by_reading(self.lot, ends(self.question, self.lot, begins, timing)).items():
            if self.now is None and late:
                places = {(values, self.state or 0) for values, _ in places}
            behind = {(looked(self.lot, place), 0 if self.question.kind == "stretch" else place[1])
                      for place in places}
            found[shown] = (frozenset(places), frozenset(behind))
        return found

    def look(self, shown):
        places, self.now = self.groups()[shown]
        self.states = tuple(sorted({state for _, state in places}))
        self.answers = tuple(sorted({self.question.core.tells[state] for state in self.states}))
        return self.answers[0] if len(self.answers) == 1 else None


def knowledge(question, lot, timing=None, most=1000):
    """All sets of places that a watcher may know of directly behind a look, as many as told and a few more."""
    knower = Knower(question, lot, timing)
    waiting, met = [None], set()
    while waiting and len(met) <= most:
        knower.now = waiting.pop()
        for _, behind in knower.groups().values():
            if behind not in met:
                met.add(behind)
                waiting.append(behind)
    return met


def some_history(chance, question, timing, looks):
    """Any history that keeps the timing, with so many looks."""
    stretches = []
    for k in range(looks):
        free = k == 0 and question.kind in LATE
        stretch = []
        for _ in range(chance.randint(0, 4)):
            more = stretch + [chance.choice(question.deeds)]
            if free or timing.allows(more):
                stretch = more
        stretches.append(stretch)
    return History(stretches)


def acts_machine(question):
    """The machine whose states are the acts of the question."""
    found = acts(question.core)
    numbers = {act.states: k for k, (act, _) in enumerate(found)}
    steps = [found[numbers[tuple(row[i] for row in question.core.rows)]][0] for i in range(len(question.deeds))]
    rows = [[numbers[(act * step).states] for step in steps] for act, _ in found]
    return Machine(question.deeds, rows, [f"v{k}" for k in range(len(rows))])


def showing(machine):
    """The machine that tells its states."""
    return Machine(machine.deeds, machine.rows, [f"v{k}" for k in range(len(machine))], machine.start)


def some_table(chance, deeds, states, tells):
    """Any machine over these deeds; `tells` are chosen from, or None: then each state has a tell of its own."""
    rows = [[chance.randrange(states) for _ in deeds] for _ in range(states)]
    told = [f"v{k}" for k in range(states)] if tells is None else [chance.choice(tells) for _ in range(states)]
    return Machine(deeds, rows, told)


def some_mark(chance, deeds, states=3):
    tells = chance.choice([None, None, ("x", "y")])
    return Mark(some_table(chance, deeds, chance.randint(1, states), tells), chance.choice(RULES))


def some_lot(chance, deeds, most=2):
    return Lot([some_mark(chance, deeds) for _ in range(chance.randint(0, most))])


def some_question(chance, deeds, kind=None):
    return Question(some_table(chance, deeds, chance.randint(1, 4), ("no", "yes")), kind or chance.choice(KINDS))


def some_timing(chance, deeds):
    most = chance.choice([None, None, 0, 1, 2, 3, 4, 5])
    return Timing(most, chance.sample(deeds, chance.choice([0, 0, 1, len(deeds)])))


def some_close_lot(chance, question):
    """A lot with marks that do much of what the question does, so that clashes need more looks."""
    machines = [question.machine, showing(question.machine), Machine(
        question.deeds, question.machine.rows, [chance.choice("xyz") for _ in question.machine.rows])]
    return Lot([Mark(chance.choice(machines), chance.choice(RULES)) for _ in range(chance.randint(1, 2))])
