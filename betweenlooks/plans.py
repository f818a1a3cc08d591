"""Plans: looks whose reads are not all done at one moment."""

from betweenlooks.courses import READ, Course
from betweenlooks.errors import (
    BadNumber, BadPick, BadRead, BadSame, BadWant, BadWhen, NoDeed, NoMark, NoRead, OtherDeeds, TooMany, Uneven,
)
from betweenlooks.lots import all_choices
from betweenlooks.reporting import Reporting
from betweenlooks.torn import Torn
from betweenlooks.words import is_index, is_integer, is_tell

MOST_MARKS = 4
MOST_READS = 8
GREATEST_MOST = 1000
MOST_SEARCHED_READS = 6
MOST_SEARCHED_MARKS = 3
MOST_PAIRS = 6
WHENS = ("first", "last", "some")


class Plan:
    """The reads of a look, which of them are told, and when the look fails."""

    def __init__(self, reads, picks, same=(), wants=()):
        check_sizes(reads, picks)
        check_reads(reads, picks)
        check_same(reads, same)
        check_wants(reads, wants)
        self.reads = tuple(reads)
        self.picks = tuple(picks)
        self.same = tuple([tuple(pair) for pair in same])
        self.wants = tuple([(read, tuple(tells)) for read, tells in wants])

    @classmethod
    def strictest(cls, reads):
        """The plan with these reads in which all reads of one mark have to show the same."""
        for index, mark in enumerate(reads):
            if not is_integer(mark) or mark < 0:
                raise BadRead(index)
        missing = [mark for mark in range(len(reads) + 1) if mark not in reads][0]
        if len(reads) == 0 or missing <= max(reads):
            raise NoRead(missing)
        picks = [list(reads).index(mark) for mark in range(missing)]
        same = []
        for read, mark in enumerate(reads):
            later = [number for number in range(read + 1, len(reads)) if reads[number] == mark]
            same.extend([(read, number) for number in later[:1]])
        return cls(reads, picks, same)

    def __len__(self):
        return len(self.reads)

    def __eq__(self, other):
        if not isinstance(other, Plan):
            return NotImplemented
        if self.reads != other.reads or self.picks != other.picks:
            return False
        return self.same == other.same and self.wants == other.wants

    def result(self, shown):
        """The row that a look tells whose reads have shown this, or None if the look fails."""
        if len(shown) != len(self.reads):
            raise Uneven(len(shown), len(self.reads))
        if not all([shown[one] == shown[other] for one, other in self.same]):
            return None
        if not all([shown[read] in tells for read, tells in self.wants]):
            return None
        return tuple([shown[pick] for pick in self.picks])


def check_sizes(reads, picks):
    """Raise an error unless a plan may have so many reads and marks."""
    if len(picks) > MOST_MARKS:
        raise TooMany("marks", len(picks), MOST_MARKS)
    if len(reads) > MOST_READS:
        raise TooMany("reads", len(reads), MOST_READS)
    if len(picks) == 0:
        raise NoRead(0)


def check_reads(reads, picks):
    """Raise an error unless each read is that of a mark, and each pick a read of its mark."""
    for index, mark in enumerate(reads):
        if not is_index(mark, len(picks)):
            raise BadRead(index)
    for index, pick in enumerate(picks):
        if not is_index(pick, len(reads)) or reads[pick] != index:
            raise BadPick(index)


def check_same(reads, same):
    """Raise BadSame unless these are different pairs of reads of one mark."""
    met = {}
    for index, pair in enumerate(same):
        if not isinstance(pair, (list, tuple)) or len(pair) != 2:
            raise BadSame(index)
        one, other = pair
        if not is_index(other, len(reads)) or not is_index(one, other) or reads[one] != reads[other]:
            raise BadSame(index)
        if (one, other) in met:
            raise BadSame(index)
        met[one, other] = True


def check_wants(reads, wants):
    """Raise BadWant unless these are pairs of a read and of the different tells that it may show."""
    for index, pair in enumerate(wants):
        if not isinstance(pair, (list, tuple)) or len(pair) != 2:
            raise BadWant(index)
        read, tells = pair
        if not is_index(read, len(reads)) or not isinstance(tells, (list, tuple)) or len(tells) == 0:
            raise BadWant(index)
        if not all([is_tell(tell) for tell in tells]) or len(set(tells)) < len(tells):
            raise BadWant(index)


class Reading:
    """A look of a run: what its reads have shown, what it tells, and which rows stood at its moments."""

    def __init__(self, shown, row, stood, between):
        self.shown = shown
        self.row = row
        self.stood = stood
        self.between = between
        self.is_torn = row is not None and row not in stood


def check_even(plan, lot):
    """Raise Uneven unless the lot has the marks of the plan."""
    if len(lot) != len(plan.picks):
        raise Uneven(len(lot), len(plan.picks))


def check_most(most):
    """Raise BadNumber unless a look may be limited to so many deeds."""
    if most is not None and (not is_integer(most) or not 0 <= most <= GREATEST_MOST):
        raise BadNumber(most)


def play(plan, lot, run):
    """The looks of a run, as far as they are finished."""
    check_even(plan, lot)
    for index, member in enumerate(run):
        if member != READ and member not in lot[0].machine.deeds:
            raise NoDeed(index)
    looks = []
    values = lot.begin
    shown = []
    stood = []
    between = 0
    for member in run:
        if len(shown) == 0:
            stood = [lot.look(values)[0]]
            between = 0
        if member != READ:
            values = lot.after(values, (member,))
            between += 1
        else:
            mark = plan.reads[len(shown)]
            shown.append(lot.look(values)[0][mark])
            values = values[:mark] + (lot.look(values)[1][mark],) + values[mark + 1:]
        if len(shown) == len(plan.reads):
            looks.append(Reading(tuple(shown), plan.result(shown), tuple(stood), between))
            shown = []
        elif lot.look(values)[0] not in stood:
            stood.append(lot.look(values)[0])
    return looks


def tear(plan, lot, most=None):
    """The shortest run that ends with a torn look, or None."""
    check_even(plan, lot)
    check_most(most)
    return Torn(plan, Course(plan, lot), most).first_run()


def most_between(plan, lot, run):
    """The greatest number of deeds in a look of the run."""
    return max([look.between for look in play(plan, lot, run)])


def calm(plan, lot):
    """How many deeds a look may have at most so that none is torn: None if any number, -1 if even 0 are too many."""
    check_even(plan, lot)
    course = Course(plan, lot)
    run = Torn(plan, course, None, True).first_run()
    if run is None:
        return None
    # No torn look has fewer deeds than the last one of this run, but the looks ahead of it may have more.
    low = play(plan, lot, run)[-1].between - 1
    high = most_between(plan, lot, run)
    while high - low > 1:
        middle = (low + high) // 2
        run = Torn(plan, course, middle).first_run()
        if run is None:
            low = middle
        else:
            high = most_between(plan, lot, run)
    return low


class Report:
    """For each row that some look tells, a tell of the machine that is right for all looks that tell this row."""

    def __init__(self, answers):
        self._answers = {row: answers[row] for row in answers}

    @property
    def answers(self):
        """The dict from the rows to the tells."""
        return {row: self._answers[row] for row in self._answers}


class Doubt:
    """A row, and runs that end with looks that tell it, such that no tell is right for all these looks."""

    def __init__(self, row, runs):
        self.row = row
        self._runs = tuple(runs)

    @property
    def runs(self):
        """The list of the runs."""
        return list(self._runs)


def report(plan, lot, machine, when, most=None):
    """What a told row says about a machine that does all deeds and is not read: a Report or a Doubt."""
    check_even(plan, lot)
    if lot[0].machine.deeds != machine.deeds:
        raise OtherDeeds(lot[0].machine.deeds, machine.deeds)
    if when not in WHENS:
        raise BadWhen(when)
    check_most(most)
    looks = Reporting(plan, Course(plan, lot, machine), when, most)
    answers = {}
    for row in looks.all_told():
        if not looks.has_right(row):
            return Doubt(row, looks.runs_against(row))
        answers[row] = looks.right_tell(row)
    return Report(answers)


def all_reads(marks, many):
    """The ascending list of all tuples of so many reads in which each of so many marks is read."""
    found = [()]
    for _ in range(many):
        found = [reads + (mark,) for reads in found for mark in range(marks)]
    return [reads for reads in found if len(set(reads)) == marks]


def fewest_reads(lot, reads, most=None):
    """The strictest plan with the fewest reads, at most so many, whose looks are never torn, or None."""
    if len(lot) == 0:
        raise NoMark()
    if not is_integer(reads) or not 1 <= reads <= MOST_SEARCHED_READS:
        raise BadNumber(reads)
    if len(lot) > MOST_SEARCHED_MARKS:
        raise TooMany("marks", len(lot), MOST_SEARCHED_MARKS)
    for many in range(len(lot), reads + 1):
        for row in all_reads(len(lot), many):
            if not is_doubled(lot, row) and tear(Plan.strictest(row), lot, most) is None:
                return Plan.strictest(row)
    return None


def is_doubled(lot, reads):
    """Whether a kept mark is read twice in a row: what tears the plan with one read less tears this one, too."""
    return any([one == other and lot[one].rule == "kept" for one, other in zip(reads, reads[1:])])


def leaner(plan, lot, most=None):
    """The plans with the fewest of the pairs of a plan that are never torn: no further pair can be left out."""
    if len(plan.same) > MOST_PAIRS:
        raise TooMany("pairs", len(plan.same), MOST_PAIRS)
    if tear(plan, lot, most) is not None:
        return []
    found = []
    for choice in all_choices(len(plan.same)):
        # With more pairs fewer looks tell something: what is never torn with fewer pairs is not torn with these.
        if any([all([place in choice for place in least]) for least in found]):
            continue
        if tear(with_pairs(plan, choice), lot, most) is None:
            found.append(choice)
    return [with_pairs(plan, choice) for choice in found]


def with_pairs(plan, choice):
    """The plan with only those of its pairs that stand at these places."""
    return Plan(plan.reads, plan.picks, [plan.same[place] for place in choice], plan.wants)
