"""Others: what is left to a watcher when somebody else looks at the same marks, too."""

from betweenlooks.clashes import clash
from betweenlooks.errors import BadIndex, Uneven
from betweenlooks.lots import all_choices
from betweenlooks.machines import Machine
from betweenlooks.marks import Lot, Mark
from betweenlooks.places import check_same_deeds
from betweenlooks.questions import Question
from betweenlooks.words import is_index


def with_deed(machine, deed, led):
    """The machine with one more deed, which leads each state to the state in the list `led`."""
    # What is no new deed, or one too many, the machine refuses; its place is the number of the deeds so far.
    rows = [row + (to,) for row, to in zip(machine.rows, led)]
    return Machine(machine.deeds + (deed,), rows, machine.tells, machine.start)


def idle(machine, deed):
    """The machine with one more deed that leads every state to itself."""
    return with_deed(machine, deed, list(range(len(machine))))


def exposed(mark, deed):
    """The mark with one more deed, the look of somebody else: it clears the mark if a look does."""
    if mark.rule == "kept":
        return hidden(mark, deed)
    return Mark(with_deed(mark.machine, deed, [mark.machine.start] * len(mark.machine)), mark.rule)


def hidden(mark, deed):
    """The mark with one more deed, the look of somebody who does not look at this mark."""
    return Mark(idle(mark.machine, deed), mark.rule)


def first_bad(indexes, many):
    """The place of the first member that is no index of so many things or equals an earlier one, or None."""
    for place, index in enumerate(indexes):
        if not is_index(index, many) or index in indexes[:place]:
            return place
    return None


def clash_among(question, lot, deed, *, own=(), timing=None):
    """A clash with the fewest looks when somebody else may look at all marks but the own ones; or None."""
    place = first_bad(own, len(lot))
    if place is not None:
        raise BadIndex(place)
    check_same_deeds(question, lot)
    asked = Question(idle(question.machine, deed), question.kind)
    marks = []
    for index, mark in enumerate(lot.marks):
        marks.append(hidden(mark, deed) if index in own else exposed(mark, deed))
    return clash(asked, Lot(marks), timing)


def fewest_own(question, lot, deed, timing=None):
    """The fewest marks that nobody else may look at so that the lot suffices, the smallest tuple of them; or None."""
    for own in all_choices(len(lot)):
        if clash_among(question, lot, deed, own=own, timing=timing) is None:
            return own
    return None


def unserved(questions, reads, lot, timing=None):
    """The watchers whose marks do not suffice while all watchers look: pairs of the number and a clash."""
    if len(reads) != len(questions):
        raise Uneven(len(reads), len(questions))
    for number, indexes in enumerate(reads):
        if len(indexes) == 0 or first_bad(indexes, len(lot)) is not None:
            raise BadIndex(number)
    found = []
    for number, question in enumerate(questions):
        check_same_deeds(question, lot)
        seen = clash_of_watcher(number, question, reads, lot, timing)
        if seen is not None:
            found.append((number, seen))
    return found


def clash_of_watcher(number, question, reads, lot, timing):
    """A clash for a watcher, in which the looks of others are deeds; or None."""
    machine = question.machine
    marks = [lot[index] for index in reads[number]]
    cleared = [index for index in reads[number] if lot[index].rule == "cleared"]
    for other, indexes in enumerate(reads):
        if other != number and any([index in indexes for index in cleared]):
            deed = f"look{other}"
            machine = idle(machine, deed)
            both = list(zip(reads[number], marks))
            marks = [exposed(mark, deed) if index in indexes else hidden(mark, deed) for index, mark in both]
    return clash(Question(machine, question.kind), Lot(marks), timing)
