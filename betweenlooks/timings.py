"""Timings: how long a stretch may be, and behind which deeds a look is owed."""

from betweenlooks.errors import BadKind, BadNumber
from betweenlooks.words import KINDS, LATE_KINDS, check_different, is_integer

GREATEST_MOST = 10 ** 30


class Timing:
    """A stretch has at most `most` deeds, unless this is None, and none of those in `owed` but the last one."""

    def __init__(self, most=None, owed=()):
        if most is not None and (not is_integer(most) or not 0 <= most <= GREATEST_MOST):
            raise BadNumber(most)
        check_different(owed)
        self.most = most
        self.owed = tuple(owed)

    def __eq__(self, other):
        if not isinstance(other, Timing):
            return NotImplemented
        return self.most == other.most and self.owed == other.owed

    def allows(self, row):
        """Whether the row may be a stretch."""
        if self.most is not None and len(row) > self.most:
            return False
        return not any([deed in self.owed for deed in row[:-1]])

    def kept(self, history, kind):
        """Whether a history keeps the timing for questions of this kind."""
        if kind not in KINDS:
            raise BadKind(kind)
        # Whoever joins or is told a state was not there before the first look.
        bound = history.stretches[1:] if kind in LATE_KINDS else history.stretches
        return all([self.allows(stretch) for stretch in bound])


def timing_or_free(timing):
    """The timing; where it is None, the one without limits."""
    return Timing() if timing is None else timing
