"""Lines: the words that name a customary mark."""

from betweenlooks.errors import BadLine

MOST_GROUPS = 6
GREATEST_BEGIN = 99
GREATEST_PERIOD = 99
SINGLE_KINDS = ("latch", "count")
PARTED_KINDS = ("level", "last", "first", "ends", "recent")
SIMPLE_KINDS = ("latch", "chain", "level", "last", "first", "ends", "recent", "count")


def read_line(deeds, line):
    """What a line says: the group of `since` or None, the kind, its numbers, its groups."""
    words = line.split(" ")
    cut = None
    at = 0
    if words[0] == "since":
        at, cut = read_group(words, 1, deeds, deeds)
        if word_at(words, at) != ":":
            raise BadLine(at)
        at += 1
    kind = word_at(words, at)
    if kind not in SIMPLE_KINDS:
        raise BadLine(at)
    at, numbers = read_numbers(words, at + 1, kind)
    at, groups = read_groups(words, at, deeds, kind)
    # What is read up to here could be a whole line, and each of its words could stand in one.
    if at < len(words):
        raise BadLine(at)
    return (cut, kind, numbers, groups)


def word_at(words, at):
    """The word at a place, or None behind the last one."""
    return words[at] if at < len(words) else None


def read_numbers(words, at, kind):
    """The place behind the numbers of a line of this kind, and these numbers."""
    ranges = []
    if kind == "recent":
        ranges = [(1, MOST_GROUPS)]
    if kind == "count":
        ranges = [(0, GREATEST_BEGIN), (1, GREATEST_PERIOD)]
    numbers = []
    for low, high in ranges:
        word = word_at(words, at)
        if word not in [str(number) for number in range(low, high + 1)]:
            raise BadLine(at)
        numbers.append(int(word))
        at += 1
    return (at, tuple(numbers))


def read_groups(words, at, deeds, kind):
    """The place behind the groups of a line of this kind, and these groups."""
    left = deeds
    groups = []
    while True:
        at, group = read_group(words, at, deeds, left)
        groups.append(group)
        if kind in PARTED_KINDS:
            left = [deed for deed in left if deed not in group]
        is_full = kind in SINGLE_KINDS or len(groups) == MOST_GROUPS or len(left) == 0
        if is_full or word_at(words, at) != ",":
            return (at, tuple(groups))
        at += 1


def read_group(words, at, deeds, left):
    """The place behind a group of the deeds that are left, and this group."""
    if word_at(words, at) == "*" and len(left) == len(deeds):
        return (at + 1, tuple(deeds))
    group = []
    while word_at(words, at) in left and word_at(words, at) not in group:
        group.append(words[at])
        at += 1
    if len(group) == 0:
        raise BadLine(at)
    return (at, tuple(group))
