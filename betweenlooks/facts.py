"""Facts: what is told after every row of deeds.

Each class has `told`, what the fact tells after a row, and `machine_for`, the least machine with some deeds that tells
the same after each row of them.
"""

from betweenlooks.errors import BadNumber, BadTell, TooMany
from betweenlooks.telling import machine_by, same_facts, told_by
from betweenlooks.ways import (
    Among, Beside, CountedChanges, Counted, Earlier, Ending, Holding, LastDeeds, LastOf, Raised, Replaced, Restarted,
    Scattering, Seen, SeenTell, Turned,
)
from betweenlooks.words import check_group, check_pattern, is_integer, is_tell

MOST_LEVELS = 100
GREATEST_NUMBER = 59


class Fact:
    """What all facts have in common.

    `word` names the class in texts, `plain` are the arguments that are no facts, `parts` those that are, and `way`
    tells how the fact is reckoned.
    """

    def __init__(self, word, plain, parts, way):
        levels = 1
        for part in parts:
            if part.levels >= levels:
                levels = part.levels + 1
        if levels > MOST_LEVELS:
            raise TooMany("facts", MOST_LEVELS + 1, MOST_LEVELS)
        self.word = word
        self.plain = plain
        self.parts = parts
        self.way = way
        self.levels = levels

    def __eq__(self, other):
        if not isinstance(other, Fact):
            return NotImplemented
        return same_facts(self, other)

    def __invert__(self):
        return Not(self)

    def __and__(self, other):
        if not isinstance(other, Fact):
            return NotImplemented
        return And(self, other)

    def __or__(self, other):
        if not isinstance(other, Fact):
            return NotImplemented
        return Or(self, other)

    def __xor__(self, other):
        if not isinstance(other, Fact):
            return NotImplemented
        return Xor(self, other)

    def __mul__(self, other):
        if not isinstance(other, Fact):
            return NotImplemented
        return Both(self, other)


def check_number(number):
    """Raise BadNumber unless this is a number that a fact may have."""
    if not is_integer(number) or not 1 <= number <= GREATEST_NUMBER:
        raise BadNumber(number)


class Done(Fact):
    """Whether a deed of the group was done."""

    def __init__(self, group):
        check_group(group)
        self.group = tuple(group)
        super().__init__("done", (self.group,), (), Seen(self.group))

    def told(self, row):
        return told_by(self, row)

    def machine_for(self, deeds):
        return machine_by(self, deeds)


class Latest(Fact):
    """The last deed done that is in the group."""

    def __init__(self, group):
        check_group(group)
        self.group = tuple(group)
        super().__init__("latest", (self.group,), (), LastOf(self.group))

    def told(self, row):
        return told_by(self, row)

    def machine_for(self, deeds):
        return machine_by(self, deeds)


class Count(Fact):
    """How many of the deeds done are in the group, but never more than top."""

    def __init__(self, group, top):
        check_group(group)
        check_number(top)
        self.group = tuple(group)
        self.top = top
        super().__init__("count", (self.group, top), (), Counted(self.group, top))

    def told(self, row):
        return told_by(self, row)

    def machine_for(self, deeds):
        return machine_by(self, deeds)


class Turn(Fact):
    """How many of the deeds done are in the group, modulo modulus."""

    def __init__(self, group, modulus):
        check_group(group)
        check_number(modulus)
        self.group = tuple(group)
        self.modulus = modulus
        super().__init__("turn", (self.group, modulus), (), Turned(self.group, modulus))

    def told(self, row):
        return told_by(self, row)

    def machine_for(self, deeds):
        return machine_by(self, deeds)


class Level(Fact):
    """A level from 0 to top, which the deeds of one group raise and those of another one lower."""

    def __init__(self, up, down, top):
        check_group(up)
        check_group(down)
        check_number(top)
        self.up = tuple(up)
        self.down = tuple(down)
        self.top = top
        super().__init__("level", (self.up, self.down, top), (), Raised(self.up, self.down, top))

    def told(self, row):
        return told_by(self, row)

    def machine_for(self, deeds):
        return machine_by(self, deeds)


class Ahead(Fact):
    """Whether the first deed that is in one of two groups is in the first one."""

    def __init__(self, first, second):
        check_group(first)
        check_group(second)
        self.first = tuple(first)
        self.second = tuple(second)
        super().__init__("ahead", (self.first, self.second), (), Earlier(self.first, self.second))

    def told(self, row):
        return told_by(self, row)

    def machine_for(self, deeds):
        return machine_by(self, deeds)


class Recent(Fact):
    """The last deeds done, as many as told."""

    def __init__(self, many):
        check_number(many)
        self.many = many
        super().__init__("recent", (many,), (), LastDeeds(many))

    def told(self, row):
        return told_by(self, row)

    def machine_for(self, deeds):
        return machine_by(self, deeds)


class Ends(Fact):
    """Whether the last deeds done are the pattern."""

    def __init__(self, pattern):
        check_pattern(pattern)
        self.pattern = tuple(pattern)
        super().__init__("ends", (self.pattern,), (), Ending(self.pattern))

    def told(self, row):
        return told_by(self, row)

    def machine_for(self, deeds):
        return machine_by(self, deeds)


class Has(Fact):
    """Whether the pattern was done somewhere, without other deeds in between."""

    def __init__(self, pattern):
        check_pattern(pattern)
        self.pattern = tuple(pattern)
        super().__init__("has", (self.pattern,), (), Holding(self.pattern))

    def told(self, row):
        return told_by(self, row)

    def machine_for(self, deeds):
        return machine_by(self, deeds)


class Scattered(Fact):
    """Whether the pattern was done, with any other deeds in between."""

    def __init__(self, pattern):
        check_pattern(pattern)
        self.pattern = tuple(pattern)
        super().__init__("scattered", (self.pattern,), (), Scattering(self.pattern))

    def told(self, row):
        return told_by(self, row)

    def machine_for(self, deeds):
        return machine_by(self, deeds)


class Since(Fact):
    """What a fact tells after the deeds behind the last deed of the group."""

    def __init__(self, group, fact):
        check_group(group)
        self.group = tuple(group)
        self.fact = fact
        super().__init__("since", (self.group,), (fact,), Restarted(self.group))

    def told(self, row):
        return told_by(self, row)

    def machine_for(self, deeds):
        return machine_by(self, deeds)


class Once(Fact):
    """Whether a fact told this tell at some moment so far."""

    def __init__(self, fact, tell):
        if not is_tell(tell):
            raise BadTell(0)
        self.fact = fact
        self.tell = tell
        super().__init__("once", (tell,), (fact,), SeenTell(tell))

    def told(self, row):
        return told_by(self, row)

    def machine_for(self, deeds):
        return machine_by(self, deeds)


class Changes(Fact):
    """How many of the deeds done changed what a fact tells, modulo modulus."""

    def __init__(self, fact, modulus):
        check_number(modulus)
        self.fact = fact
        self.modulus = modulus
        super().__init__("changes", (modulus,), (fact,), CountedChanges(modulus))

    def told(self, row):
        return told_by(self, row)

    def machine_for(self, deeds):
        return machine_by(self, deeds)


class Retold(Fact):
    """What a fact tells, replaced by the value under it if it is a key of the table."""

    def __init__(self, fact, table):
        for index, (key, value) in enumerate(table.items()):
            if not is_tell(key) or not is_tell(value):
                raise BadTell(index)
        self.fact = fact
        self.pairs = tuple([(key, table[key]) for key in sorted([str(key) for key in table])])
        super().__init__("retold", self.pairs, (fact,), Replaced(dict(self.pairs)))

    def told(self, row):
        return told_by(self, row)

    def machine_for(self, deeds):
        return machine_by(self, deeds)


class Not(Fact):
    """Whether a fact does not tell yes."""

    def __init__(self, fact):
        self.fact = fact
        super().__init__("not", (), (fact,), Among(0, 0))

    def told(self, row):
        return told_by(self, row)

    def machine_for(self, deeds):
        return machine_by(self, deeds)


class And(Fact):
    """Whether both facts tell yes."""

    def __init__(self, one, two):
        self.one = one
        self.two = two
        super().__init__("and", (), (one, two), Among(2, 2))

    def told(self, row):
        return told_by(self, row)

    def machine_for(self, deeds):
        return machine_by(self, deeds)


class Or(Fact):
    """Whether at least one of two facts tells yes."""

    def __init__(self, one, two):
        self.one = one
        self.two = two
        super().__init__("or", (), (one, two), Among(1, 2))

    def told(self, row):
        return told_by(self, row)

    def machine_for(self, deeds):
        return machine_by(self, deeds)


class Xor(Fact):
    """Whether exactly one of two facts tells yes."""

    def __init__(self, one, two):
        self.one = one
        self.two = two
        super().__init__("xor", (), (one, two), Among(1, 1))

    def told(self, row):
        return told_by(self, row)

    def machine_for(self, deeds):
        return machine_by(self, deeds)


class Both(Fact):
    """What one fact tells, then `/`, then what another one tells."""

    def __init__(self, one, two):
        self.one = one
        self.two = two
        super().__init__("with", (), (one, two), Beside())

    def told(self, row):
        return told_by(self, row)

    def machine_for(self, deeds):
        return machine_by(self, deeds)
