"""Onto: how a mark that suffices refines the least mark."""

from betweenlooks.clashes import clash
from betweenlooks.errors import Clashes, NoMark
from betweenlooks.least import least
from betweenlooks.marks import Lot
from betweenlooks.places import check_same_deeds
from betweenlooks.walks import first_steps


def onto(question, mark):
    """A dict from the values of the mark that count to their partners, values of the least mark."""
    lot = Lot([mark])
    check_same_deeds(question, lot)
    if mark.hides:
        raise NoMark()
    found = clash(question, lot)
    if found is not None:
        raise Clashes(found)
    machine = mark.machine
    aim = least(question, mark.rule).mark.machine
    if mark.rule == "cleared" or question.kind == "carried":
        return partners_from(machine, aim, machine.start, aim.start)
    partners = {}
    for value in lasting_values(machine):
        if value not in partners:
            partners.update(partners_around(machine, aim, value))
    return partners


def lasting_values(machine):
    """The values that are reached, and reached again from each value that is reached from them."""
    reached = {value: reached_from(machine, value) for value in reached_from(machine, machine.start)}
    return [value for value in reached if all([value in reached[later] for later in reached[value]])]


def reached_from(machine, value):
    """The values that are reached from a value, as a dict."""
    return {states[0]: True for states in first_steps(machine.deeds, (machine.rows,), (value,))}


def partners_around(machine, aim, value):
    """Partners for all values that are reached from a lasting value."""
    for partner in range(len(aim)):
        partners = partners_from(machine, aim, value, partner)
        if is_led_alike(machine, aim, partners):
            return partners
    # A mark that suffices refines the least one: no other value is left over.
    return {}


def partners_from(machine, aim, value, partner):
    """The partners to which the first rows from a value lead its partner."""
    found = first_steps(machine.deeds, (machine.rows,), (value,))
    partners = {value: partner}
    for states, step in found.items():
        if step is not None:
            partners[states[0]] = aim.after((step[1],), partners[step[0][0]])
    return partners


def is_led_alike(machine, aim, partners):
    """Whether every deed leads partners to partners."""
    for value, partner in partners.items():
        for led, also in zip(machine.rows[value], aim.rows[partner]):
            if partners[led] != also:
                return False
    return True
