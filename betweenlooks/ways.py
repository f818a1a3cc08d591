"""Ways: how the facts are reckoned, deed by deed.

Every kind of fact has a way, with a memory that is a plain value. `opening` is the memory ahead of all deeds, `moved`
the memory behind one more deed, and `says` what is told. `now` is the tuple of what the facts tell, of which the fact
is made, and `before` what they told ahead of the deed. `cuts` tells whether a deed lets these facts begin anew.
"""


def yes_or_no(truth):
    """The tell that answers whether something is so."""
    return "yes" if truth else "no"


class Way:
    """What most ways have in common: nothing is remembered, and no deed cuts."""

    def opening(self, now):
        return 0

    def moved(self, memory, deed, before, now):
        return memory

    def cuts(self, deed):
        return False


class Seen(Way):
    """Whether a deed of the group was done."""

    def __init__(self, group):
        self.group = group

    def moved(self, memory, deed, before, now):
        return 1 if deed in self.group else memory

    def says(self, memory, now):
        return yes_or_no(memory == 1)


class LastOf(Way):
    """The last deed that is in the group."""

    def __init__(self, group):
        self.group = group

    def opening(self, now):
        return "0"

    def moved(self, memory, deed, before, now):
        return deed if deed in self.group else memory

    def says(self, memory, now):
        return memory


class Counted(Way):
    """The number of deeds that are in the group, not above the top."""

    def __init__(self, group, top):
        self.group = group
        self.top = top

    def moved(self, memory, deed, before, now):
        return memory + 1 if deed in self.group and memory < self.top else memory

    def says(self, memory, now):
        return str(memory)


class Turned(Way):
    """The number of deeds that are in the group, modulo the modulus."""

    def __init__(self, group, modulus):
        self.group = group
        self.modulus = modulus

    def moved(self, memory, deed, before, now):
        return (memory + 1) % self.modulus if deed in self.group else memory

    def says(self, memory, now):
        return str(memory)


class Raised(Way):
    """A level from 0 to the top; a deed of both groups raises first and then lowers."""

    def __init__(self, up, down, top):
        self.up = up
        self.down = down
        self.top = top

    def moved(self, memory, deed, before, now):
        level = memory
        if deed in self.up and level < self.top:
            level += 1
        if deed in self.down and level > 0:
            level -= 1
        return level

    def says(self, memory, now):
        return str(memory)


class Earlier(Way):
    """Whether the first deed that is in one of the two groups is in the first group."""

    def __init__(self, first, second):
        self.first = first
        self.second = second

    def opening(self, now):
        return None

    def moved(self, memory, deed, before, now):
        if memory is None and (deed in self.first or deed in self.second):
            return deed in self.first
        return memory

    def says(self, memory, now):
        return yes_or_no(memory is True)


class LastDeeds(Way):
    """The last deeds, as many as told."""

    def __init__(self, many):
        self.many = many

    def opening(self, now):
        return ()

    def moved(self, memory, deed, before, now):
        return (memory + (deed,))[-self.many:]

    def says(self, memory, now):
        return "/".join(memory) if len(memory) > 0 else "0"


class Ending(Way):
    """Whether the last deeds are the pattern. The memory is the length of its longest beginning that they end with."""

    def __init__(self, pattern):
        self.pattern = pattern

    def moved(self, memory, deed, before, now):
        done = self.pattern[:memory] + (deed,)
        for length in range(len(self.pattern), 0, -1):
            if length <= len(done) and done[len(done) - length:] == self.pattern[:length]:
                return length
        return 0

    def says(self, memory, now):
        return yes_or_no(memory == len(self.pattern))


class Holding(Way):
    """Whether the pattern was done somewhere, without other deeds in between."""

    def __init__(self, pattern):
        self.pattern = pattern
        self.ending = Ending(pattern)

    def moved(self, memory, deed, before, now):
        return memory if memory == len(self.pattern) else self.ending.moved(memory, deed, before, now)

    def says(self, memory, now):
        return yes_or_no(memory == len(self.pattern))


class Scattering(Way):
    """Whether the pattern was done, with any other deeds in between. The memory is how many of its deeds were."""

    def __init__(self, pattern):
        self.pattern = pattern

    def moved(self, memory, deed, before, now):
        return memory + 1 if self.pattern[memory:memory + 1] == (deed,) else memory

    def says(self, memory, now):
        return yes_or_no(memory == len(self.pattern))


class Restarted(Way):
    """What the fact tells, which begins anew behind each deed of the group."""

    def __init__(self, group):
        self.group = group

    def cuts(self, deed):
        return deed in self.group

    def says(self, memory, now):
        return now[0]


class SeenTell(Way):
    """Whether the fact told this tell at some moment."""

    def __init__(self, tell):
        self.tell = tell

    def opening(self, now):
        return 1 if now[0] == self.tell else 0

    def moved(self, memory, deed, before, now):
        return 1 if now[0] == self.tell else memory

    def says(self, memory, now):
        return yes_or_no(memory == 1)


class CountedChanges(Way):
    """How many deeds changed what the fact tells, modulo the modulus."""

    def __init__(self, modulus):
        self.modulus = modulus

    def moved(self, memory, deed, before, now):
        return (memory + 1) % self.modulus if before[0] != now[0] else memory

    def says(self, memory, now):
        return str(memory)


class Replaced(Way):
    """What the fact tells, replaced by the value under it if it is a key of the table."""

    def __init__(self, table):
        self.table = table

    def says(self, memory, now):
        return self.table.get(now[0], now[0])


class Among(Way):
    """Whether at least so many and at most so many of the facts tell yes."""

    def __init__(self, low, high):
        self.low = low
        self.high = high

    def says(self, memory, now):
        return yes_or_no(self.low <= now.count("yes") <= self.high)


class Beside(Way):
    """What all the facts tell, one after the other."""

    def says(self, memory, now):
        return "/".join(now)
