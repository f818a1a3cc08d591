"""Stretches: where the deeds between two looks, and the looks behind them, lead the places of a question and a lot."""

from betweenlooks.timings import Timing


def stretch_rows(deeds, rows, begin, timing):
    """The dict of the places to which stretches lead a place, each with a stretch, when rows tell where deeds lead.

    It is one of the shortest stretches behind which a further deed may come, if there are any.
    """
    found = {begin: ()}
    ended = {}
    layer = [begin]
    length = 0
    while len(layer) > 0 and (timing.most is None or length < timing.most):
        later = []
        for place in layer:
            for deed, led in zip(deeds, rows[place]):
                if deed in timing.owed:
                    ended[led] = found[place] + (deed,)
                elif led not in found:
                    found[led] = found[place] + (deed,)
                    later.append(led)
        layer = later
        length += 1
    return {**ended, **found}


class Stretches:
    """The stretches that a timing allows between the places of a question and a lot.

    A *moment* is a place directly behind a look, or None, which is ahead of the first look.
    """

    def __init__(self, places, timing):
        self.places = places
        self.timing = timing
        self.found = {}

    def ends(self, moment):
        """The dict of the places at the next look to which stretches lead from a moment, with the stretches."""
        if moment not in self.found:
            begin = 0 if moment is None else moment
            # Whoever comes at the first look does not know how long the stretch ahead of it was.
            timing = Timing() if moment is None and self.places.is_late else self.timing
            self.found[moment] = stretch_rows(self.places.deeds, self.places.rows, begin, timing)
        return self.found[moment]

    def led(self, moment, end, told=None):
        """The place directly behind the next look, when this look is at a place; the told state, if there is one."""
        if moment is not None:
            return self.places.behind[end]
        return self.places.firsts[end][0 if told is None else told][1]

    def standing(self, moment, end, told=None):
        """The place whose state has the answer at the next look, when this look is at a place."""
        if moment is None and self.places.is_late:
            return self.led(moment, end, told)
        return end

    def next_looks(self, moments, told=None):
        """The readings that the next look may have behind one of these moments.

        Each reading has a dict: from each place at which the look may be, to a triple: a moment ahead of it, the place
        that has the answer, and the place behind the look.
        """
        looks = {}
        for moment in moments:
            for end in self.ends(moment):
                ends = looks.setdefault(self.places.shown[end], {})
                if end not in ends:
                    ends[end] = (moment, self.standing(moment, end, told), self.led(moment, end, told))
        return looks
