"""What several tests use: machines, made by chance with a fixed seed, and slow but plain ways to the answers."""

import itertools
import unittest

from betweenlooks.errors import LooksError
from betweenlooks.machines import Machine

BACK = Machine(("f", "r"), [[1, 0], [1, 2], [2, 2]], ["no", "no", "yes"])

# Values of many kinds, none of which is a word, a tell, an index or a number.
ODD_VALUES = [
    None, True, False, "", "A", "a b", "a-b", "ab\n", b"a", [], ["a"], (), ("a",), {}, {"a": 1}, {"a"}, object(),
    -1, 1.0, "\u00e9", "a\u00b2", "\u0661",
]


class ErrorCase(unittest.TestCase):
    def assert_error(self, kind, fields, call, *args, **more):
        """The call raises an error of this very class with these fields, of the same kinds."""
        try:
            call(*args, **more)
        except LooksError as error:
            self.assertIs(error.__class__, kind)
            found = tuple(vars(error).values())
            self.assertEqual(found, tuple(fields))
            self.assertEqual([value.__class__ for value in found], [value.__class__ for value in fields])
        else:
            self.fail("no error")


def ring(many, tells=None, deeds=("a",)):
    """Each deed leads each state to the next one, the last one to 0."""
    return Machine(deeds, [[(k + 1) % many] * len(deeds) for k in range(many)], tells or ["x"] * many)


def some_machine(chance, states=None, deeds=None, tells=("no", "yes")):
    """Any machine of up to twelve states over up to six deeds."""
    many = states or chance.randint(1, 12)
    words = chance.sample(["a", "b", "go", "x1", "stop", "z9z9z9z9z9z9"], deeds or chance.randint(1, 6))
    rows = [[chance.randrange(many) for _ in words] for _ in range(many)]
    return Machine(words, rows, [chance.choice(tells) for _ in range(many)], chance.randrange(many))


def rows_up_to(deeds, most):
    """All rows up to a length, in their order."""
    return [row for length in range(most + 1) for row in itertools.product(deeds, repeat=length)]


def led(machine, state, row):
    """Where the row leads the state, deed by deed."""
    for deed in row:
        state = machine.rows[state][machine.deeds.index(deed)]
    return state


def first_where(machine, begins, holds):
    """The first row that leads the pairs (machine, state) of `begins` to states for which `holds` is true, or None.

    Goes through the rows length by length, and on only with those that lead to states not met before.
    """
    level = [((), tuple(begins))]
    met = set()
    while level:
        later = []
        for row, states in level:
            if states in met:
                continue
            met.add(states)
            if holds(states):
                return row
            for deed in machine[0].deeds:
                later.append((row + (deed,), tuple(led(m, s, (deed,)) for m, s in zip(machine, states))))
        level = later
    return None


def relabelled(machine, order):
    """The same machine, where state k has the number order[k]."""
    many = len(machine)
    rows, tells = [None] * many, [None] * many
    for state in range(many):
        rows[order[state]] = [order[to] for to in machine.rows[state]]
        tells[order[state]] = machine.tells[state]
    return Machine(machine.deeds, rows, tells, order[machine.start])


def doubled(machine, chance):
    """A machine that tells the same: each state stands twice, one more is never reached, the numbers are others."""
    many = len(machine)
    rows = [[to + many * chance.randint(0, 1) for to in machine.rows[k % many]] for k in range(2 * many)]
    rows.append([chance.randrange(2 * many + 1) for _ in machine.deeds])
    tells = list(machine.tells) * 2 + ["lost"]
    start = machine.start + many * chance.randint(0, 1)
    order = list(range(2 * many + 1))
    chance.shuffle(order)
    return relabelled(Machine(machine.deeds, rows, tells, start), order)
