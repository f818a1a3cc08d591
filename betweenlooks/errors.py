"""The errors of the package; each keeps the fields that it is made from."""


class LooksError(ValueError):
    """What all errors of the package are."""


class BadDeeds(LooksError):
    """A member of a list of deeds is no deed or stands there twice; the list may be empty, too."""

    def __init__(self, index):
        self.index = index


class TooMany(LooksError):
    """More than `most` things were found or passed."""

    def __init__(self, what, many, most):
        self.what = what
        self.many = many
        self.most = most


class BadRow(LooksError):
    """A row of a machine's table is not a list of as many states as there are deeds."""

    def __init__(self, index):
        self.index = index


class BadTell(LooksError):
    """A member of a list of tells is no tell."""

    def __init__(self, index):
        self.index = index


class Uneven(LooksError):
    """Two numbers that have to be equal are not."""

    def __init__(self, many, most):
        self.many = many
        self.most = most


class BadState(LooksError):
    """A value is not a state."""

    def __init__(self, state):
        self.state = state


class NoDeed(LooksError):
    """A member of a row is not one of the deeds."""

    def __init__(self, index):
        self.index = index


class OtherDeeds(LooksError):
    """Two things have different deeds, or the same ones in another order."""

    def __init__(self, have, want):
        self.have = have
        self.want = want


class NoEntry(LooksError):
    """A table has no entry for a tell."""

    def __init__(self, tell):
        self.tell = tell


class BadAct(LooksError):
    """A value is not the tuple of states of an act."""

    def __init__(self, states):
        self.states = states


class BadNumber(LooksError):
    """A value is not a number from the range that is asked for."""

    def __init__(self, number):
        self.number = number


class BadKind(LooksError):
    """A value is not the kind of a question, or not one that can be asked here."""

    def __init__(self, kind):
        self.kind = kind


class OtherKind(LooksError):
    """Two questions have different kinds."""

    def __init__(self, have, want):
        self.have = have
        self.want = want


class BadStretch(LooksError):
    """A member of a history is not a list of deeds."""

    def __init__(self, index):
        self.index = index


class BadLook(LooksError):
    """A history has no such look."""

    def __init__(self, k):
        self.k = k


class BadPlace(LooksError):
    """A place at which a row is to be cut is not in it, or is ahead of the place before."""

    def __init__(self, index):
        self.index = index


class BadText(LooksError):
    """A text cannot be read from this line on."""

    def __init__(self, line):
        self.line = line


class BadRule(LooksError):
    """A value is not the rule of a mark, or not one that can be used here."""

    def __init__(self, rule):
        self.rule = rule


class CannotBe(LooksError):
    """No history that may be has this reading."""

    def __init__(self, reading):
        self.reading = reading


class NoHistory(LooksError):
    """No history that may be has this answer."""

    def __init__(self, answer):
        self.answer = answer


class BadWord(LooksError):
    """A value is not a word."""

    def __init__(self, word):
        self.word = word


class BadMove(LooksError):
    """A move of a routine is not a pair of the described kind."""

    def __init__(self, key):
        self.key = key


class NoMove(LooksError):
    """A routine has no move for a reading."""

    def __init__(self, index):
        self.index = index


class Clashes(LooksError):
    """A lot does not suffice, as the clash shows."""

    def __init__(self, clash):
        self.clash = clash


class BadValue(LooksError):
    """A value is not a value of the mark."""

    def __init__(self, value):
        self.value = value


class NoMark(LooksError):
    """There is no mark, or none that shows its values."""


class NoLeast(LooksError):
    """Questions of this kind have no least mark with this rule under a timing."""

    def __init__(self, kind, rule):
        self.kind = kind
        self.rule = rule


class BadLine(LooksError):
    """A line does not name a customary mark."""

    def __init__(self, index):
        self.index = index


class BadWay(LooksError):
    """A value is not a way to choose customary marks."""

    def __init__(self, way):
        self.way = way


class BadMark(LooksError):
    """A member of a list of marks is not a mark."""

    def __init__(self, index):
        self.index = index


class BadPrice(LooksError):
    """A member of a list of priced marks does not have a price."""

    def __init__(self, index):
        self.index = index


class BadIndex(LooksError):
    """A value is not an index of the lot, or stands there twice."""

    def __init__(self, index):
        self.index = index


class NoRead(LooksError):
    """A plan has no read of a mark."""

    def __init__(self, mark):
        self.mark = mark


class BadRead(LooksError):
    """A read of a plan is not the index of a mark."""

    def __init__(self, index):
        self.index = index


class BadPick(LooksError):
    """A pick of a plan is not the number of a read of its mark."""

    def __init__(self, index):
        self.index = index


class BadSame(LooksError):
    """A pair of a plan does not name two reads of one mark."""

    def __init__(self, index):
        self.index = index


class BadWant(LooksError):
    """A want of a plan is not a read with the tells that it may show."""

    def __init__(self, index):
        self.index = index


class BadWhen(LooksError):
    """A value does not name a moment of a look."""

    def __init__(self, when):
        self.when = when


class BadName(LooksError):
    """A value is not a name that may be used here."""

    def __init__(self, name):
        self.name = name


class NoSteps(LooksError):
    """A desk has no step to take back."""


class TooLong(LooksError):
    """A deed does not fit into the stretch."""

    def __init__(self, index):
        self.index = index


class Refused(LooksError):
    """The lot of a desk would not suffice for a question any more."""

    def __init__(self, name, clash):
        self.name = name
        self.clash = clash
