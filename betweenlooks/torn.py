"""Torn: the run that ends with a torn look and is the shortest, or the calmest."""

from heapq import heappop, heappush

from betweenlooks.courses import READ, Starts
from betweenlooks.demands import Demands

# What a look is to tell: nothing is known of it yet, or a row that no place shows. Other rows have a number from 0 on.
OPEN = -1
NEW = -2


class Torn:
    """Goes through the looks, those first with which the run may be the shortest.

    With `is_calm` those come first that may have the fewest deeds, however long the run ahead of them is.

    For each row that stands somewhere, the looks are searched that tell it though it does not stand at any of their
    moments; for all other rows together, the looks that tell one of them.

    A stand is a tuple: the place, the number of the next read, the number of the row, and the memory of the demands.
    A step is a stand with the length of the run (the reads of the look aside), the deeds in the look, the number of the
    step ahead of it, and what was done there. Directly ahead of a look, the row and the memory are None.
    """

    def __init__(self, plan, course, most, is_calm=False):
        self.course = course
        self.most = most
        self.is_calm = is_calm
        self.demands = Demands(plan)
        self.starts = Starts(course, most)
        numbers = {}
        for row in course.shown:
            numbers.setdefault(row, len(numbers))
        self.rows = list(numbers)
        self.row_numbers = [numbers[row] for row in course.shown]
        self.distances = {}
        self.alive = {}
        self.steps = []
        self.queue = []
        self.done = {}

    def first_run(self):
        """The first run that is found and ends with a torn look, or None."""
        if len(self.demands.picks) == 1:
            # What a single mark shows at a read stands directly ahead of this read.
            return None
        many = len(self.course.reads)
        for place in self.starts.firsts:
            self.push((place, 0, None, self.demands.blank), self.starts.length_to(place), 0, None, None)
        while len(self.queue) > 0:
            _, _, number = heappop(self.queue)
            stand, length, deeds, _, _ = self.steps[number]
            if stand[1] == many:
                return self.run_to(number)
            if not self.is_done(stand, deeds):
                self.done[stand] = deeds
                if stand[2] is None:
                    self.begin_look(stand[0], length, number)
                else:
                    self.do_deeds(number)
                    self.do_read(number)
        return None

    def is_done(self, stand, deeds):
        """Whether the steps behind a stand were added before, with as few deeds in the look where they are limited."""
        return stand in self.done and (self.most is None or self.done[stand] <= deeds)

    def push(self, stand, length, deeds, before, member):
        """Add a step, unless it leads nowhere or stands behind one that does as well."""
        place, read, _, memory = stand
        if self.is_done(stand, deeds):
            return
        ahead = 0
        for mark, tell in self.demands.still_due(memory, read):
            needed = self.deeds_until(mark, tell)[place]
            if needed is None:
                return
            ahead = max(ahead, needed)
        if self.most is None or deeds + ahead <= self.most:
            self.steps.append((stand, length, deeds, before, member))
            so_far = deeds if self.is_calm else length
            heappush(self.queue, (so_far + ahead, len(self.course.reads) - read, len(self.steps) - 1))

    def deeds_until(self, mark, tell):
        """For each place the least number of deeds until a mark shows a tell, or None if it never does.

        In between, any of the plan's reads may be done, in whatever order: so it is never too great.
        """
        if (mark, tell) not in self.distances:
            self.distances[mark, tell] = distances_to(self.course, mark, tell)
        return self.distances[mark, tell]

    def begin_look(self, place, length, number):
        """Add the steps directly ahead of a look, for each row that does not stand there."""
        self.push((place, 0, OPEN, self.demands.blank), length, 0, number, None)
        for row, tells in enumerate(self.rows):
            memory = self.demands.memory_of(tells)
            if row != self.row_numbers[place] and memory is not None:
                self.push((place, 0, row, memory), length, 0, number, None)

    def do_deeds(self, number):
        """Add the steps behind each deed; deeds ahead of the first read are in no look."""
        (place, read, row, memory), length, deeds, _, _ = self.steps[number]
        if read == 0:
            return
        for deed, led in zip(self.course.deeds, self.course.rows[place]):
            if row != self.row_numbers[led]:
                self.push((led, read, row, memory), length + 1, deeds + 1, number, deed)

    def do_read(self, number):
        """Add the step behind the next read."""
        (place, read, row, memory), length, deeds, _, _ = self.steps[number]
        tell = self.course.shown[place][self.course.reads[read]]
        memory = self.demands.memory_behind(memory, read, tell, row != NEW)
        if memory is None:
            return
        if row == OPEN and not self.is_alive(self.demands.row_told(memory)):
            row = NEW
            memory = self.demands.without_row(memory, read)
        led = self.course.behind[place, read]
        is_last = read == len(self.course.reads) - 1
        # Directly behind its last read a look is over: what stands there does not count.
        if (is_last and row != OPEN) or (not is_last and row != self.row_numbers[led]):
            self.push((led, read + 1, row, memory), length, deeds, number, READ)

    def is_alive(self, tells):
        """Whether a row that stands somewhere has these tells, as far as they are known."""
        if tells not in self.alive:
            fitting = [row for row in self.rows if all([tell in (None, own) for tell, own in zip(tells, row)])]
            self.alive[tells] = len(fitting) > 0
        return self.alive[tells]

    def run_to(self, number):
        """The run to a step."""
        members = []
        stand, _, _, before, member = self.steps[number]
        while before is not None:
            if member is not None:
                members.append(member)
            stand, _, _, before, member = self.steps[before]
        return tuple(self.starts.run_to(stand[0]) + members[::-1])


def distances_to(course, mark, tell):
    """For each place the least number of deeds, with any reads in between, until a mark shows a tell; None if never."""
    by_deed = [[] for _ in course.shown]
    by_read = [[] for _ in course.shown]
    for place in course.rows:
        for led in course.rows[place]:
            by_deed[led].append(place)
    for place, read in course.behind:
        by_read[course.behind[place, read]].append(place)
    distances = [None for _ in course.shown]
    layer = [place for place, row in enumerate(course.shown) if row[mark] == tell]
    many = 0
    while len(layer) > 0:
        at = 0
        later = []
        while at < len(layer):
            if distances[layer[at]] is None:
                distances[layer[at]] = many
                layer.extend(by_read[layer[at]])
                later.extend(by_deed[layer[at]])
            at += 1
        layer = later
        many += 1
    return distances
