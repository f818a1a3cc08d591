"""Customs: how the customary marks are reckoned, deed by deed, in the way that `ways` describes."""

from betweenlooks.ways import Way


def number_of(groups, deed):
    """The number of the first group that has the deed, counted from 1; 0 if there is none."""
    for index, group in enumerate(groups):
        if deed in group:
            return index + 1
    return 0


class Latched(Way):
    """Whether a deed of the group occurred."""

    def __init__(self, group):
        self.group = group

    def moved(self, memory, deed, before, now):
        return 1 if deed in self.group else memory

    def says(self, memory, now):
        return str(memory)


class Chained(Way):
    """How many of the groups occurred one after the other."""

    def __init__(self, groups):
        self.groups = groups

    def moved(self, memory, deed, before, now):
        return memory + 1 if memory < len(self.groups) and deed in self.groups[memory] else memory

    def says(self, memory, now):
        return str(memory)


class Highest(Way):
    """The greatest number of a group that occurred."""

    def __init__(self, groups):
        self.groups = groups

    def moved(self, memory, deed, before, now):
        return max(memory, number_of(self.groups, deed))

    def says(self, memory, now):
        return str(memory)


class LatestGroups(Way):
    """The numbers of the groups of the last deeds that are in a group, as many as told."""

    def __init__(self, groups, many):
        self.groups = groups
        self.many = many

    def opening(self, now):
        return ()

    def moved(self, memory, deed, before, now):
        number = number_of(self.groups, deed)
        return (memory + (number,))[-self.many:] if number > 0 else memory

    def says(self, memory, now):
        return "/".join([str(number) for number in memory]) if len(memory) > 0 else "0"


class FirstGroup(LatestGroups):
    """The number of the group of the first deed that is in a group."""

    def moved(self, memory, deed, before, now):
        return memory if len(memory) > 0 else super().moved(memory, deed, before, now)


class BothEnds(LatestGroups):
    """The numbers of the groups of the first and of the last deed that is in a group."""

    def moved(self, memory, deed, before, now):
        number = number_of(self.groups, deed)
        if number == 0:
            return memory
        return (memory[0] if len(memory) > 0 else number, number)


class Rounds(Way):
    """How many deeds are in the group; from `begin` on, only the place in rounds of so many deeds is told."""

    def __init__(self, group, begin, period):
        self.group = group
        self.begin = begin
        self.period = period

    def moved(self, memory, deed, before, now):
        if deed not in self.group:
            return memory
        return memory + 1 if memory + 1 < self.begin + self.period else self.begin

    def says(self, memory, now):
        return str(memory)


class CutBy(Way):
    """Another way that begins anew behind each deed of the group; it is made of no facts."""

    def __init__(self, group, inner):
        self.group = group
        self.inner = inner

    def opening(self, now):
        return self.inner.opening(now)

    def moved(self, memory, deed, before, now):
        if deed in self.group:
            return self.inner.opening(now)
        return self.inner.moved(memory, deed, before, now)

    def says(self, memory, now):
        return self.inner.says(memory, now)


def custom_way(kind, numbers, groups):
    """The way of a line of this kind with these numbers and groups."""
    if kind == "latch":
        return Latched(groups[0])
    if kind == "chain":
        return Chained(groups)
    if kind == "level":
        return Highest(groups)
    if kind == "first":
        return FirstGroup(groups, 1)
    if kind == "ends":
        return BothEnds(groups, 2)
    if kind == "count":
        return Rounds(groups[0], numbers[0], numbers[1])
    return LatestGroups(groups, numbers[0] if kind == "recent" else 1)
