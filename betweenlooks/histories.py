"""Histories: stretches of deeds, with a look behind each of them."""

from math import comb

from betweenlooks.errors import BadLook, BadNumber, BadPlace, BadStretch, BadText, TooMany
from betweenlooks.words import check_deeds, check_row, is_index, is_integer, is_word

MOST_LOOKS = 100
MOST_DONE = 100
MOST_HISTORIES = 20000
LOOK = "|"


class History:
    """A history: the tuple of its stretches."""

    def __init__(self, stretches=()):
        for index, stretch in enumerate(stretches):
            if not isinstance(stretch, (list, tuple)) or not all([is_word(deed) for deed in stretch]):
                raise BadStretch(index)
        self.stretches = tuple([tuple(stretch) for stretch in stretches])

    def __len__(self):
        return len(self.stretches)

    def __iter__(self):
        return iter(self.stretches)

    def __eq__(self, other):
        if not isinstance(other, History):
            return NotImplemented
        return self.stretches == other.stretches

    def __getitem__(self, at):
        if not is_index(at, len(self.stretches)):
            raise BadLook(at)
        return self.stretches[at]

    def __add__(self, other):
        if not isinstance(other, History):
            return NotImplemented
        return History(self.stretches + other.stretches)

    @property
    def whole(self):
        """The row of all deeds."""
        return tuple([deed for stretch in self.stretches for deed in stretch])

    @property
    def text(self):
        """The deeds of each stretch and then a bar, separated by spaces."""
        return " ".join([piece for stretch in self.stretches for piece in stretch + (LOOK,)])

    def until(self, k):
        """The history up to look k."""
        if not is_index(k, len(self.stretches)):
            raise BadLook(k)
        return History(self.stretches[:k + 1])

    def without(self, k):
        """The history in which look k is left out."""
        if not is_index(k, len(self.stretches)):
            raise BadLook(k)
        if k == len(self.stretches) - 1:
            return History(self.stretches[:k])
        joined = self.stretches[k] + self.stretches[k + 1]
        return History(self.stretches[:k] + (joined,) + self.stretches[k + 2:])

    @classmethod
    def cut(cls, row, places):
        """The history of a row with a look behind the first p deeds for each p in places."""
        check_row(row)
        before = 0
        for index, place in enumerate(places):
            if not is_index(place, len(row) + 1) or place < before:
                raise BadPlace(index)
            before = place
        return cls(stretches_of(row, places))

    @classmethod
    def read(cls, text):
        """The history with this text."""
        pieces = text.split(" ") if text != "" else []
        stretches = []
        stretch = []
        for piece in pieces:
            if piece == LOOK:
                stretches.append(stretch)
                stretch = []
            elif is_word(piece):
                stretch.append(piece)
            else:
                raise BadText(1)
        if len(stretch) > 0:
            raise BadText(1)
        return cls(stretches)


def stretches_of(row, places):
    """The stretches of a row that is cut at these places."""
    return [row[begin:end] for begin, end in zip([0, *places], places)]


def histories(deeds, looks, most):
    """All histories with so many looks and at most so many deeds."""
    check_deeds(deeds)
    if not is_integer(looks) or not 1 <= looks <= MOST_LOOKS:
        raise BadNumber(looks)
    if not is_integer(most) or not 0 <= most <= MOST_DONE:
        raise BadNumber(most)
    check_how_many(len(deeds), looks, most)
    found = []
    rows = [()]
    for length in range(most + 1):
        cuts = all_places(length, looks)
        found.extend([History(stretches_of(row, places)) for row in rows for places in cuts])
        rows = [row + (deed,) for row in rows for deed in deeds]
    return found


def check_how_many(deeds, looks, most):
    """Raise TooMany if there are too many histories over so many deeds."""
    many = 0
    rows = 1
    for length in range(most + 1):
        many += rows * comb(length + looks - 1, length)
        if many > MOST_HISTORIES:
            raise TooMany("histories", MOST_HISTORIES + 1, MOST_HISTORIES)
        rows = rows * deeds


def all_places(length, looks):
    """All places of so many looks in a row of a length, with the last look at its end, in ascending order."""
    found = [(0,)]
    for _ in range(looks - 1):
        found = [places + (place,) for places in found for place in range(places[-1], length + 1)]
    return [places[1:] + (length,) for places in found]
