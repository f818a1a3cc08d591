"""Watchers: what can be concluded from the readings so far; and routines, watchers with finite memory."""

from betweenlooks.clashes import clash_at
from betweenlooks.errors import (
    BadKind, BadMove, BadState, BadWord, CannotBe, Clashes, NoHistory, NoMove, TooMany,
)
from betweenlooks.histories import History
from betweenlooks.places import places_for
from betweenlooks.stretches import Stretches
from betweenlooks.timings import timing_or_free
from betweenlooks.words import is_index, is_tell, is_word

MOST_MEMORIES = 300


class Watcher:
    """Somebody who has made some looks, and remembers the readings and, for a taken question, the told state.

    A moment is a place directly behind the last look, or None ahead of the first look. For each look so far there is a
    dict from the places at which this look may have been; `next_looks` of Stretches tells what its values are.
    """

    def __init__(self, question, lot, timing=None, *, state=None):
        bound = timing_or_free(timing)
        self._places = places_for(question, lot, bound)
        is_told = question.kind == "taken"
        if is_told and not is_index(state, len(question.core)):
            raise BadState(state)
        self._question = question
        self._lot = lot
        self._timing = bound
        self._state = state if is_told else None
        self._stretches = Stretches(self._places, bound)
        self._moments = [None]
        self._layers = []
        self._readings = []

    @property
    def seen(self):
        """The readings so far."""
        return list(self._readings)

    @property
    def possible_answers(self):
        """The answers that may be due at the last look, ascending."""
        return tuple(sorted(set([self._places.tells[standing] for standing in self._standings()])))

    @property
    def possible_states(self):
        """The states from which these answers are told, ascending."""
        return tuple(sorted(set([self._places.found[standing][1] for standing in self._standings()])))

    def _standings(self):
        """The places that may have the answer at the last look."""
        last = self._layers[-1] if len(self._layers) > 0 else {}
        return [last[end][1] for end in last]

    def look(self, reading):
        """Make the next look; the answer that is due, or None if it may be one or another."""
        ends = self._ends_with(reading)
        if len(ends) == 0:
            raise CannotBe(reading)
        self._moments = sorted(set([ends[end][2] for end in ends]))
        self._layers = self._layers + [ends]
        self._readings = self._readings + [tuple(reading)]
        answers = self.possible_answers
        return answers[0] if len(answers) == 1 else None

    def _ends_with(self, reading):
        """The places at which the next look may be if it has this reading, which may be any value."""
        # Other values are not compared with tells: nobody knows what their own comparison does.
        if not isinstance(reading, (list, tuple)) or not all([is_tell(tell) for tell in reading]):
            return {}
        return self._stretches.next_looks(self._moments, self._state).get(tuple(reading), {})

    def coming(self):
        """The readings that the next look may have, ascending."""
        return sorted(list(self._stretches.next_looks(self._moments, self._state)))

    def example(self, answer):
        """A history that may be and at whose last look this answer is due."""
        last = self._layers[-1] if len(self._layers) > 0 else {}
        for end in last:
            if is_tell(answer) and self._places.tells[last[end][1]] == answer:
                return self._history_to(end)
        raise NoHistory(answer)

    def _history_to(self, end):
        """A history with the readings so far whose last look is at this place."""
        stretches = []
        for number in range(len(self._layers) - 1, -1, -1):
            moment = self._layers[number][end][0]
            stretches.append(self._stretches.ends(moment)[end])
            if moment is not None:
                end = self._end_ahead(number - 1, moment)
        return History(stretches[::-1])

    def _end_ahead(self, number, moment):
        """A place at which the look with this number may have been if it led to this moment."""
        ends = self._layers[number]
        return [end for end in ends if ends[end][2] == moment][0]

    def copy(self):
        """A watcher that has made the same looks."""
        twin = Watcher(self._question, self._lot, self._timing, state=self._state)
        twin._moments = self._moments
        twin._layers = self._layers
        twin._readings = self._readings
        return twin


class Routine:
    """A watcher as a table: a memory and a reading lead to a new memory and an answer."""

    def __init__(self, begin, moves):
        if not is_word(begin):
            raise BadWord(begin)
        for key, move in moves.items():
            if not is_situation(key) or not is_move(move):
                raise BadMove(key)
        self.begin = begin
        self._table = {key: tuple(moves[key]) for key in moves}

    @property
    def moves(self):
        """The table: a dict from pairs of a memory and a reading to pairs of a memory and an answer."""
        return {key: self._table[key] for key in self._table}

    def follow(self, readings):
        """The answers that the routine gives for these readings."""
        memory = self.begin
        answers = []
        for index, reading in enumerate(readings):
            if (memory, tuple(reading)) not in self._table:
                raise NoMove(index)
            memory, answer = self._table[(memory, tuple(reading))]
            answers.append(answer)
        return answers

    def wrong(self, question, lot, timing=None):
        """A history with the fewest looks at whose last look the routine is wrong or has no move, or None."""
        bound = timing_or_free(timing)
        places = places_for(question, lot, bound)
        if question.kind == "taken":
            raise BadKind("taken")
        stretches = first_wrong(self.begin, self._table, Stretches(places, bound))
        return None if stretches is None else History(stretches)


def is_situation(key):
    """Whether a value is a pair of a word and a reading, both as tuples."""
    if not isinstance(key, tuple) or len(key) != 2 or not is_word(key[0]):
        return False
    return isinstance(key[1], tuple) and all([is_tell(tell) for tell in key[1]])


def is_move(move):
    """Whether a value is a pair of a word and a tell."""
    return isinstance(move, (list, tuple)) and len(move) == 2 and is_word(move[0]) and is_tell(move[1])


def first_wrong(begin, table, stretches):
    """The stretches of a history with the fewest looks at whose last look the table is wrong, or None.

    A stand is the pair of a moment and a memory; its step tells the stand ahead of it and the place at the look.
    """
    places = stretches.places
    steps = {(None, begin): None}
    layer = [(None, begin)]
    while len(layer) > 0:
        later = []
        for stand in layer:
            moment, memory = stand
            for end in stretches.ends(moment):
                move = table.get((memory, places.shown[end]), None)
                if move is None or move[1] != places.tells[stretches.standing(moment, end)]:
                    return stretches_to(steps, stretches, stand, end)
                led = (stretches.led(moment, end), move[0])
                if led not in steps:
                    steps[led] = (stand, end)
                    later.append(led)
        layer = later
    return None


def stretches_to(steps, stretches, stand, end):
    """The stretches of a history up to the look at a place behind a stand."""
    rows = []
    while stand is not None:
        rows.append(stretches.ends(stand[0])[end])
        if steps[stand] is None:
            break
        stand, end = steps[stand]
    return rows[::-1]


def routine_of(question, lot, timing=None):
    """A routine that is not wrong: its memories are the sets of the places that the readings so far leave open."""
    bound = timing_or_free(timing)
    places = places_for(question, lot, bound)
    if question.kind == "taken":
        raise BadKind("taken")
    found = clash_at(places, bound)
    if found is not None:
        raise Clashes(found)
    stretches = Stretches(places, bound)
    # The set ahead of the first look is no set of places behind a look; so it has the key None.
    names = {None: "m0"}
    waiting = [(None, [None])]
    moves = {}
    at = 0
    while at < len(waiting):
        key, moments = waiting[at]
        looks = stretches.next_looks(moments)
        for reading in looks:
            ends = looks[reading]
            led = sorted(set([ends[end][2] for end in ends]))
            if tuple(led) not in names:
                names[tuple(led)] = f"m{len(names)}"
                waiting.append((tuple(led), led))
            standing = [ends[end][1] for end in ends][0]
            moves[(names[key], reading)] = (names[tuple(led)], places.tells[standing])
            if len(names) > MOST_MEMORIES + 1:
                raise TooMany("memories", MOST_MEMORIES + 1, MOST_MEMORIES)
        at += 1
    return Routine("m0", moves)
