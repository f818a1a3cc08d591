"""Reporting: what a machine tells around the looks that tell a row."""

from betweenlooks.courses import READ, Starts
from betweenlooks.demands import Demands


class Reporting:
    """Goes through all looks of a plan, under a limit on the deeds in a look.

    A stand is a tuple: the place, the number of the next read, and the memory of the demands. Sets of tells of the
    machine are numbers, whose bits stand for the tells in ascending order.
    """

    def __init__(self, plan, course, when, most):
        self.course = course
        self.when = when
        self.most = most
        self.demands = Demands(plan)
        self.starts = Starts(course, most)
        self.tells = sorted(set(course.tells))
        self.bits = [1 << self.tells.index(tell) for tell in course.tells]
        self.sets = {}
        self.rows_told = {}
        self.is_lost = False

    def joined(self, one, other):
        """What two ways to the same stand or row leave: for `some` the tells of both, otherwise those of either."""
        return one & other if self.when == "some" else one | other

    def all_told(self):
        """A dict from each row that some look tells to a set of tells.

        For `first` and `last` these are all tells that the machine tells there; for `some` those that it tells at some
        moment of each of the looks. It is broken off at a row without a tell that is right.
        """
        later = {}
        for place in self.starts.firsts:
            # What the machine tells at the last read is not known until then.
            later[(place, 0, self.demands.blank)] = 0 if self.when == "last" else self.bits[place]
        deeds = 0
        while len(later) > 0 and not self.is_lost and (self.most is None or deeds <= self.most):
            waiting = []
            for stand in later:
                if self.is_changed(stand, later[stand]):
                    waiting.append(stand)
            later = self.layer_behind(waiting)
            deeds += 1
        return self.rows_told

    def is_changed(self, stand, held):
        """Whether one more way to a stand leaves another set there; the set is kept."""
        before = self.sets.get(stand, None)
        self.sets[stand] = held if before is None else self.joined(before, held)
        return self.sets[stand] != before

    def layer_behind(self, waiting):
        """The stands behind one deed more than there are in the looks that are waiting, with their sets."""
        later = {}
        at = 0
        while at < len(waiting):
            place, read, memory = waiting[at]
            own = self.sets[waiting[at]]
            # Deeds ahead of the first read are in no look.
            for led in self.course.rows[place] if read > 0 else []:
                stand = (led, read, memory)
                held = own | self.bits[led] if self.when == "some" else own
                later[stand] = self.joined(later[stand], held) if stand in later else held
            behind = self.behind_read(waiting[at])
            if behind is not None and behind[1] == len(self.course.reads):
                self.tell_row(behind[2], self.bits[place] if self.when == "last" else own)
            elif behind is not None and self.is_changed(behind, own):
                waiting.append(behind)
            at += 1
        return later

    def behind_read(self, stand):
        """The stand behind the next read, or None if the look fails."""
        place, read, memory = stand
        tell = self.course.shown[place][self.course.reads[read]]
        memory = self.demands.memory_behind(memory, read, tell, True)
        return None if memory is None else (self.course.behind[place, read], read + 1, memory)

    def tell_row(self, memory, held):
        """Note that a look tells the row of this memory."""
        row = self.demands.row_told(memory)
        self.rows_told[row] = self.joined(self.rows_told[row], held) if row in self.rows_told else held
        self.is_lost = self.is_lost or not self.has_right(row)

    def has_right(self, row):
        """Whether there is a tell that is right for all looks that are known to tell the row."""
        held = self.rows_told[row]
        # A number has a single bit exactly if it has none in common with the number ahead of it.
        return held > 0 if self.when == "some" else held & (held - 1) == 0

    def right_tell(self, row):
        """The first tell that is right for all these looks."""
        return [tell for index, tell in enumerate(self.tells) if (self.rows_told[row] >> index) % 2 == 1][0]

    def runs_against(self, row):
        """Runs that end with looks that tell the row, such that no tell is right for all of them."""
        runs = {}
        for tell in self.tells:
            run = self.run_telling(row, tell)
            if run is not None:
                runs[run] = True
        return list(runs)

    def run_telling(self, row, tell):
        """A run that ends with a look that tells the row, for `some` without this tell, otherwise with it; or None.

        A step is a tuple: the stand, the number of the step ahead of it, and what was done there.
        """
        steps = []
        for place in self.starts.firsts:
            if self.when == "last" or (self.course.tells[place] == tell) == (self.when == "first"):
                steps.append(((place, 0, self.demands.memory_of(row)), None, None))
        met = {}
        layer = list(range(len(steps)))
        deeds = 0
        while len(layer) > 0 and (self.most is None or deeds <= self.most):
            later = []
            at = 0
            while at < len(layer):
                number = layer[at]
                stand = steps[number][0]
                behind = None if stand in met else self.behind_read(stand)
                if behind is not None and behind[1] < len(self.course.reads):
                    steps.append((behind, number, READ))
                    layer.append(len(steps) - 1)
                elif behind is not None and (self.when != "last" or self.course.tells[stand[0]] == tell):
                    return self.run_to(steps, number)
                for step in [] if stand in met else self.deeds_behind(stand, number, tell):
                    steps.append(step)
                    later.append(len(steps) - 1)
                met[stand] = True
                at += 1
            layer = later
            deeds += 1
        return None

    def deeds_behind(self, stand, number, tell):
        """The steps behind each deed, but for `some` not where the machine tells this."""
        place, read, memory = stand
        ways = list(zip(self.course.deeds, self.course.rows[place])) if read > 0 else []
        if self.when == "some":
            ways = [(deed, led) for deed, led in ways if self.course.tells[led] != tell]
        return [((led, read, memory), number, deed) for deed, led in ways]

    def run_to(self, steps, number):
        """The run to a step and to the read behind it."""
        members = [READ]
        stand, before, member = steps[number]
        while before is not None:
            members.append(member)
            stand, before, member = steps[before]
        return tuple(self.starts.run_to(stand[0]) + members[::-1])
