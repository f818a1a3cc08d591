"""What facts tell, reckoned anew for each row from the definitions, and facts made by chance."""

from betweenlooks import facts
from betweenlooks.facts import (
    Ahead, And, Both, Changes, Count, Done, Ends, Has, Latest, Level, Not, Once, Or, Recent, Retold, Scattered, Since,
    Turn, Xor,
)

SIMPLE = (Done, Latest, Count, Turn, Level, Ahead, Recent, Ends, Has, Scattered)
MADE = (Since, Once, Changes, Retold, Not, And, Or, Xor, Both)


def beginnings(row):
    """The row's first deeds, none and all included."""
    return [tuple(row[:k]) for k in range(len(row) + 1)]


def yes(truth):
    return "yes" if truth else "no"


def cut(group, row):
    """The deeds behind the last deed of the group."""
    places = [k for k, deed in enumerate(row) if deed in group]
    return row[places[-1] + 1:] if places else row


def parts(fact):
    return [getattr(fact, name) for name in ("fact", "one", "two") if hasattr(fact, name)]


def class_names(fact):
    """The names of the classes of a fact and of all that it is made of."""
    return [fact.__class__.__name__] + [name for part in parts(fact) for name in class_names(part)]


def simply(fact, row):
    """What a simple fact tells."""
    name = fact.__class__.__name__
    if name in ("Done", "Latest", "Count", "Turn"):
        hits = [deed for deed in row if deed in fact.group]
        if name == "Done":
            return yes(hits)
        if name == "Latest":
            return hits[-1] if hits else "0"
        return str(min(len(hits), fact.top)) if name == "Count" else str(len(hits) % fact.modulus)
    if name == "Level":
        level = 0
        for deed in row:
            level = min(fact.top, level + 1) if deed in fact.up else level
            level = max(0, level - 1) if deed in fact.down else level
        return str(level)
    if name == "Ahead":
        hits = [deed for deed in row if deed in fact.first or deed in fact.second]
        return yes(hits and hits[0] in fact.first)
    if name == "Recent":
        return "/".join(row[-fact.many:]) or "0"
    many = len(fact.pattern)
    if name == "Ends":
        return yes(len(row) >= many and row[len(row) - many:] == fact.pattern)
    if name == "Has":
        return yes(any(row[k:k + many] == fact.pattern for k in range(len(row) - many + 1)))
    rest = iter(row)
    return yes(all(deed in rest for deed in fact.pattern))


def reckon(fact, row):
    """What a fact tells after the row, however long it is."""
    row = tuple(row)
    if isinstance(fact, SIMPLE):
        return simply(fact, row)
    name = fact.__class__.__name__
    if name == "Since":
        return reckon(fact.fact, cut(fact.group, row))
    if name in ("Once", "Changes"):
        tells = [reckon(fact.fact, first) for first in beginnings(row)]
        if name == "Once":
            return yes(fact.tell in tells)
        return str(sum(a != b for a, b in zip(tells, tells[1:])) % fact.modulus)
    if name == "Retold":
        tell = reckon(fact.fact, row)
        return dict(fact.pairs).get(tell, tell)
    tells = [reckon(part, row) for part in parts(fact)]
    if name == "Both":
        return tells[0] + "/" + tells[1]
    truths = [tell == "yes" for tell in tells]
    rules = {"Not": lambda: not truths[0], "And": lambda: all(truths), "Or": lambda: any(truths),
             "Xor": lambda: truths[0] != truths[1]}
    return yes(rules[name]())


def too_long(fact, row):
    """Whether the fact, or one that it is made of, tells something too long after the row or on the way."""
    row = tuple(row)
    for first in beginnings(row):
        if len(reckon(fact, first)) > 60:
            return True
        for part in parts(fact):
            if too_long(part, cut(fact.group, first) if isinstance(fact, Since) else first):
                return True
    return False


def some_group(chance, deeds):
    return tuple(chance.sample(deeds, chance.randint(1, len(deeds))))


def some_simple(chance, deeds):
    """Any simple fact about these deeds."""
    kind = chance.choice(SIMPLE)
    number = chance.randint(1, 4)
    if kind in (Done, Latest):
        return kind(some_group(chance, deeds))
    if kind in (Count, Turn):
        return kind(some_group(chance, deeds), number)
    if kind is Level:
        return Level(some_group(chance, deeds), some_group(chance, deeds), number)
    if kind is Ahead:
        return Ahead(some_group(chance, deeds), some_group(chance, deeds))
    if kind is Recent:
        return Recent(chance.randint(1, 2))
    return kind(tuple(chance.choices(deeds, k=chance.randint(1, 3))))


def some_fact(chance, deeds, depth):
    """Any fact about these deeds that has at most so many levels."""
    if depth == 1 or chance.random() < 0.15:
        return some_simple(chance, deeds)
    kind = chance.choice(MADE)
    inner = some_fact(chance, deeds, depth - 1)
    if kind is Since:
        return Since(some_group(chance, deeds), inner)
    if kind is Once:
        return Once(inner, chance.choice(["yes", "no", "0", "1", "2", deeds[0]]))
    if kind is Changes:
        return Changes(inner, chance.randint(1, 3))
    if kind is Retold:
        keys = chance.sample(["yes", "no", "0", "1", "2", deeds[-1]], 3)
        return Retold(inner, {key: chance.choice(["yes", "no", "x", "1"]) for key in keys})
    if kind is Not:
        return Not(inner)
    return kind(inner, some_fact(chance, deeds, depth - 1))


def renamed(fact, names):
    """The same fact with other deeds, told by a dict; tells that are deeds are not touched."""
    def new(deeds):
        return tuple(names.get(deed, deed) for deed in deeds)
    kind = getattr(facts, fact.__class__.__name__)
    if kind in (Done, Latest):
        return kind(new(fact.group))
    if kind is Count:
        return Count(new(fact.group), fact.top)
    if kind is Turn:
        return Turn(new(fact.group), fact.modulus)
    if kind is Level:
        return Level(new(fact.up), new(fact.down), fact.top)
    if kind is Ahead:
        return Ahead(new(fact.first), new(fact.second))
    if kind is Recent:
        return Recent(fact.many)
    if kind in (Ends, Has, Scattered):
        return kind(new(fact.pattern))
    inner = [renamed(part, names) for part in parts(fact)]
    if kind is Since:
        return Since(new(fact.group), *inner)
    if kind is Once:
        return Once(*inner, fact.tell)
    if kind is Changes:
        return Changes(*inner, fact.modulus)
    return Retold(*inner, dict(fact.pairs)) if kind is Retold else kind(*inner)
