"""Search: two histories that look alike and need different answers."""

from betweenlooks.stretches import Stretches


class Search:
    """Goes from look to look through the pairs of places in which two histories with the same readings may be.

    A pair holds the places of both histories behind a look. Its step is a tuple: the pair behind the look before, or
    None if there was none, the two places at the look, and the state that was told there; all of this is None for the
    pair of the beginnings.
    """

    def __init__(self, places, timing):
        self.places = places
        self.stretches = Stretches(places, timing)
        self.steps = {}
        self.halves = {}

    def unlike(self):
        """The stretches of two histories and the told state that make a clash with the fewest looks, or None."""
        layer = self.first_pairs()
        while len(layer) > 0:
            later = []
            for pair in layer:
                for one, other in self.look_alike(pair):
                    if self.places.tells[one] != self.places.tells[other]:
                        return self.history_to(pair, one, other)
                    led = (self.places.behind[one], self.places.behind[other])
                    if led not in self.steps:
                        self.steps[led] = (pair, one, other, None)
                        later.append(led)
            layer = later
        return None

    def first_pairs(self):
        """The pair of the beginnings; for a question that begins at the first look, the pairs behind that look."""
        if not self.places.is_late:
            self.steps[(0, 0)] = (None, None, None, None)
            return [(0, 0)]
        pairs = []
        before = self.stretches.ends(None)
        for one in before:
            for other in before:
                if self.places.shown[one] != self.places.shown[other]:
                    continue
                for (told, led), (_, also) in zip(self.places.firsts[one], self.places.firsts[other]):
                    if (led, also) not in self.steps:
                        self.steps[(led, also)] = (None, one, other, told)
                        pairs.append((led, also))
        return pairs

    def look_alike(self, pair):
        """The places at the next look to which stretches lead a pair, as far as they show the same."""
        found = []
        for one in self.stretches.ends(pair[0]):
            # What comes of one history's stretch does not depend on where that stretch began.
            if (one, pair[1]) not in self.halves:
                self.halves[(one, pair[1])] = True
                shown = self.places.shown
                found.extend([(one, other) for other in self.stretches.ends(pair[1]) if shown[one] == shown[other]])
        return found

    def history_to(self, pair, one, other):
        """The stretches of both histories up to the look at two places behind a pair, and the told state."""
        first = []
        second = []
        told = None
        while pair is not None:
            first.append(self.stretches.ends(pair[0])[one])
            second.append(self.stretches.ends(pair[1])[other])
            pair, one, other, told = self.steps[pair]
        if one is not None:
            first.append(self.stretches.ends(None)[one])
            second.append(self.stretches.ends(None)[other])
        return (first[::-1], second[::-1], told)
