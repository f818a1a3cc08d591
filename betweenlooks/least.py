"""The least mark that suffices for a question, or the reason why there is none."""

from betweenlooks.acts import Act, acts, followed
from betweenlooks.clashes import Clash
from betweenlooks.errors import BadRule, BadState, BadValue, NoDeed, NoLeast, TooMany
from betweenlooks.histories import History
from betweenlooks.machines import Machine
from betweenlooks.marks import Lot, Mark
from betweenlooks.places import check_same_deeds
from betweenlooks.stretches import stretch_rows
from betweenlooks.tables import MOST_STATES
from betweenlooks.timings import Timing, timing_or_free
from betweenlooks.walks import first_steps, row_to
from betweenlooks.words import RULES, is_index

MOST_IMAGES = 300
COPIED_KINDS = ("stretch", "joined")


class Never:
    """No mark with this rule suffices for the question: repeating the row brings every finite mark back to a value."""

    def __init__(self, question, row):
        self.question = question
        self.row = row

    def fooled(self, mark):
        """A clash for the question and the lot of this kept mark."""
        check_same_deeds(self.question, Lot([mark]))
        if mark.rule == "cleared":
            raise BadRule("cleared")
        ahead, again = turns_round(mark.machine, self.row)
        core = self.question.core
        if self.question.kind != "taken":
            rest = core.apart(core.start, core.after(again))
            return Clash(History([ahead, rest]), History([ahead, again + rest]))
        told = [state for state in range(len(core)) if core.after(again, state) != state][0]
        rest = core.apart(told, core.after(again, told))
        return Clash(History([ahead, rest]), History([ahead, again + rest]), told)


def turns_round(machine, row):
    """Two rows, both of them the given row repeated: behind the first one, the second one leads back to the state."""
    met = {}
    value = machine.start
    while value not in met:
        met[value] = len(met)
        value = machine.after(row, value)
    return (row * met[value], row * (len(met) - met[value]))


class Least:
    """The least mark with this rule that suffices for the question, and what its values stand for."""

    def __init__(self, question, rule, table, meanings):
        tells = [f"v{value}" for value in range(len(table))]
        self.question = question
        self.rule = rule
        self.mark = Mark(Machine(question.deeds, table, tells), rule)
        self._meanings = tuple(meanings)
        firsts = dict(self.mark.machine.reached())
        self.rows = [firsts[value] for value in range(len(table))]

    def __len__(self):
        return len(self.mark.machine)

    @property
    def meanings(self):
        """For each value a state of the core, an act, or the tuple of the states of the copies."""
        return list(self._meanings)

    def due(self, before, now, state=0):
        """The answer that the question needs at a look at the value `now`."""
        return self.question.core.tells[self.standing(before, now, state)]

    def standing(self, before, now, state=0):
        """The state of the core that this answer comes from."""
        kind = self.question.kind
        is_since = self.rule == "kept" and kind != "carried"
        used = [before, now] if is_since else [now]
        for value in used:
            if not is_index(value, len(self._meanings)):
                raise BadValue(value)
        is_asked = kind == "taken" if self.rule == "kept" else kind != "stretch"
        if is_asked and not is_index(state, len(self.question.core)):
            raise BadState(state)
        meaning = self._meanings[now]
        if is_since and kind == "taken":
            return meaning[self._meanings[before].states.index(state)]
        if is_since:
            return meaning[self._meanings[before].index(self.question.core.start)]
        return meaning[state] if is_asked else meaning


def least(question, rule, timing=None):
    """The least mark with this rule for a question, or a Never."""
    if rule not in RULES:
        raise BadRule(rule)
    bound = timing_or_free(timing)
    if bound != Timing():
        return bounded(question, rule, bound)
    core = question.core
    if question.kind == ("carried" if rule == "kept" else "stretch"):
        return Least(question, rule, core.rows, list(range(len(core))))
    if rule == "kept" and question.kind in COPIED_KINDS:
        return copies_of(question)
    if rule == "kept":
        for index, deed in enumerate(core.deeds):
            if len(set([row[index] for row in core.rows])) < len(core):
                return Never(question, (deed,))
    found, table = led_together(core, tuple(range(len(core))))
    return Least(question, rule, table, [Act(states) for states in found])


def led_together(core, begin):
    """The lists of states to which rows lead a list, in the order of the rows, and the table of where deeds lead them.

    Each list is a tuple, and the states of a list do each deed all at once.
    """
    found = list(first_steps(core.deeds, [core.rows] * len(begin), begin, MOST_STATES))
    check_states(found)
    numbers = {states: number for number, states in enumerate(found)}
    table = []
    for states in found:
        led = [tuple([core.rows[state][index] for state in states]) for index in range(len(core.deeds))]
        table.append([numbers[later] for later in led])
    return (found, table)


def check_states(found):
    """Raise TooMany if these are too many states for the machine of a mark."""
    if len(found) > MOST_STATES:
        raise TooMany("states", MOST_STATES + 1, MOST_STATES)


def copies_of(question):
    """The least kept mark of a stretch or joined question: copies of its core that run side by side; or a Never."""
    images = first_images(question.core)
    for image in images:
        if question.core.start not in image:
            return Never(question, row_to(images, image))
    fewest = min([len(image) for image in images])
    begin = [image for image in images if len(image) == fewest][0]
    found, table = led_together(question.core, begin)
    return Least(question, "kept", table, found)


def first_images(core):
    """The images of the acts, as tuples in the order of the first rows, with their steps as `first_steps` has them."""
    waiting = [tuple(range(len(core)))]
    found = {waiting[0]: None}
    at = 0
    while at < len(waiting):
        for index, deed in enumerate(core.deeds):
            image = tuple(sorted(set([core.rows[state][index] for state in waiting[at]])))
            if image not in found:
                found[image] = (waiting[at], deed)
                waiting.append(image)
        if len(found) > MOST_IMAGES:
            raise TooMany("images", MOST_IMAGES + 1, MOST_IMAGES)
        at += 1
    return found


def bounded(question, rule, timing):
    """The least cleared mark under a timing: its values are the acts of the rows that may be a stretch."""
    for index, deed in enumerate(timing.owed):
        if deed not in question.deeds:
            raise NoDeed(index)
    if rule == "kept" or question.kind == "stretch":
        raise NoLeast(question.kind, rule)
    deeds = question.deeds
    steps = [tuple([row[index] for row in question.core.rows]) for index in range(len(deeds))]
    found = [act.states for act, _ in acts(question.core)]
    numbers = {states: number for number, states in enumerate(found)}
    rows = [[numbers[followed(states, step)] for step in steps] for states in found]
    stretches = stretch_rows(deeds, rows, 0, timing)
    values = sorted(list(stretches))
    check_states(values)
    places = {number: value for value, number in enumerate(values)}
    table = []
    for number in values:
        is_open = timing.allows(stretches[number] + (deeds[0],))
        table.append([places[led if is_open else number] for led in rows[number]])
    return Least(question, rule, table, [Act(found[number]) for number in values])
