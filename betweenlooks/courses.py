"""Courses: where the deeds and the reads of a plan lead the values of the marks."""

from betweenlooks.errors import TooMany

MOST_PLACES = 60
READ = "?"


class Course:
    """The places of a plan and a lot, numbered as they are found; place 0 is that of all beginnings.

    A place is a tuple of values of the marks, and with a machine also of its state. `rows[p]` tells where the deeds
    lead place p, `behind[(p, k)]` where read number k does, as far as runs come there, `shown[p]` which row stands
    there, and `tells[p]` what the machine tells.
    """

    def __init__(self, plan, lot, machine=None):
        self.deeds = lot[0].machine.deeds
        self.reads = plan.reads
        self.marks = lot.marks
        self.machines = [mark.machine for mark in lot.marks] + ([] if machine is None else [machine])
        self.numbers = {}
        self.rows = {}
        self.behind = {}
        self.find_places(tuple([part.start for part in self.machines]))
        many = len(lot)
        self.shown = [lot.look(place[:many])[0] for place in self.numbers]
        self.tells = [None if machine is None else machine.tells[place[many]] for place in self.numbers]
        self.is_moved = any([self.behind[place, read] != place for place, read in self.behind])

    def find_places(self, begin):
        """Find all places to which runs lead, and where deeds and reads lead from there."""
        waiting = [(begin, 0)]
        met = {waiting[0]: True}
        at = 0
        while at < len(waiting):
            place, read = waiting[at]
            number = self.number_of(place)
            led = self.led_by_deeds(place)
            behind = self.led_by_read(place, read)
            self.rows[number] = [self.number_of(later) for later in led]
            self.behind[number, read] = self.number_of(behind)
            for stand in [(later, read) for later in led] + [(behind, (read + 1) % len(self.reads))]:
                if stand not in met:
                    met[stand] = True
                    waiting.append(stand)
            at += 1

    def number_of(self, place):
        """The number of a place, which is a new one if it was not met before."""
        if place not in self.numbers:
            self.numbers[place] = len(self.numbers)
        if len(self.numbers) > MOST_PLACES:
            raise TooMany("places", MOST_PLACES + 1, MOST_PLACES)
        return self.numbers[place]

    def led_by_deeds(self, place):
        """Where each deed leads a place."""
        led = []
        for index in range(len(self.deeds)):
            led.append(tuple([part.rows[state][index] for part, state in zip(self.machines, place)]))
        return led

    def led_by_read(self, place, read):
        """Where the read with this number leads a place."""
        mark = self.reads[read]
        if self.marks[mark].rule == "kept":
            return place
        return place[:mark] + (self.machines[mark].start,) + place[mark + 1:]


class Starts:
    """The places directly ahead of a look, when looks have at most so many deeds, and the shortest runs to them.

    A step is a tuple: the place, the number of the next read, the deeds in the look so far, the length of the run, the
    number of the step ahead of it, and what was done there. The steps are ordered by the lengths of their runs.
    """

    def __init__(self, course, most):
        self.steps = [(0, 0, 0, 0, None, None)]
        self.firsts = {0: 0}
        fewest = {(0, 0): 0}
        at = 0
        while at < len(self.steps):
            for step in steps_behind(course, most, self.steps[at], at):
                stand = (step[0], step[1])
                # Only who has fewer deeds in the look than those who came here earlier can do more than they can.
                if stand not in fewest or step[2] < fewest[stand]:
                    fewest[stand] = step[2]
                    self.steps.append(step)
                    if step[1] == 0:
                        self.firsts[step[0]] = len(self.steps) - 1
            at += 1

    def length_to(self, place):
        """The length of the shortest run to a place directly ahead of a look."""
        return self.steps[self.firsts[place]][3]

    def run_to(self, place):
        """The members of this run."""
        members = []
        number = self.firsts[place]
        while number is not None:
            members.append(self.steps[number][5])
            number = self.steps[number][4]
        return members[:-1][::-1]


def steps_behind(course, most, step, number):
    """The steps behind the step with this number."""
    place, read, deeds, length, _, _ = step
    later = []
    is_counted = read > 0 and most is not None
    if not is_counted or deeds < most:
        for deed, led in zip(course.deeds, course.rows[place]):
            later.append((led, read, deeds + 1 if is_counted else 0, length + 1, number, deed))
    # Where no read changes a value, no look leads to a place that deeds alone do not lead to.
    if course.is_moved:
        following = (read + 1) % len(course.reads)
        later.append((course.behind[place, read], following, deeds if following > 0 else 0, length + 1, number, READ))
    return later
