"""Demands: what a plan demands of the tells that the reads of a look show."""

from betweenlooks.tables import numbered


class Demands:
    """The reads of a plan in groups: all reads of a group have to show the same tell.

    A memory is a tuple: for each group the tell that its reads show, or None if it is not known or not needed.
    """

    def __init__(self, plan):
        self.groups = groups_of(plan)
        self.picks = [self.groups[pick] for pick in plan.picks]
        many = len(set(self.groups))
        self.blank = (None,) * many
        self.marks = [plan.reads[self.groups.index(group)] for group in range(many)]
        self.last = [max([read for read, own in enumerate(self.groups) if own == group]) for group in range(many)]
        self.wants = [[tells for read, tells in plan.wants if self.groups[read] == group] for group in range(many)]

    def fits(self, group, tell):
        """Whether the reads of a group may show a tell."""
        return all([tell in tells for tells in self.wants[group]])

    def memory_of(self, row):
        """The memory of a look that has to tell this row, or None if no look may tell it."""
        memory = list(self.blank)
        for group, tell in zip(self.picks, row):
            if not self.fits(group, tell):
                return None
            memory[group] = tell
        return tuple(memory)

    def memory_behind(self, memory, read, tell, is_told):
        """The memory behind a read that shows a tell, or None if the look fails; `is_told` if its row is needed."""
        group = self.groups[read]
        if not self.fits(group, tell) or memory[group] not in (None, tell):
            return None
        is_kept = read < self.last[group] or (is_told and group in self.picks)
        return memory[:group] + (tell if is_kept else None,) + memory[group + 1:]

    def row_told(self, memory):
        """The tells that the look will tell, as far as they are known."""
        return tuple([memory[group] for group in self.picks])

    def without_row(self, memory, read):
        """The memory without the tells that only tell the row, behind a read."""
        return tuple([tell if read < self.last[group] else None for group, tell in enumerate(memory)])

    def still_due(self, memory, read):
        """The pairs of a mark and the tell that it has to show at this read or a later one."""
        pairs = []
        for group, tell in enumerate(memory):
            if tell is not None and read <= self.last[group]:
                pairs.append((self.marks[group], tell))
        return pairs


def groups_of(plan):
    """For each read the number of its group."""
    groups = list(range(len(plan.reads)))
    for one, other in plan.same:
        joined = groups[other]
        groups = [groups[one] if group == joined else group for group in groups]
    return numbered(groups)
