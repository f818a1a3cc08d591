"""Texts: every fact has one text, from which it can be read again."""

from betweenlooks.errors import BadText, LooksError, TooMany
from betweenlooks.facts import (
    Ahead, And, Both, Changes, Count, Done, Ends, Has, Latest, Level, Not, Once, Or, Recent, Retold, Scattered, Since,
    Turn, Xor,
)
from betweenlooks.words import DIGITS

LONGEST_TEXT = 2000
SIGNS = ("and", "or", "xor", "with")
OUTER = ("since(", "once(", "changes(", "retold(")


def fact_text(fact):
    """The text of a fact."""
    pieces = []
    length = 0
    # The fact is written from left to right; what stands in `waiting` comes behind, its last member first.
    waiting = [fact]
    while len(waiting) > 0:
        piece = waiting.pop()
        if not isinstance(piece, str):
            waiting.extend(written(piece)[::-1])
        else:
            pieces.append(piece)
            length = length + len(piece)
        if length > LONGEST_TEXT:
            raise TooMany("characters", LONGEST_TEXT + 1, LONGEST_TEXT)
    return "".join(pieces)


def written(fact):
    """The text of a fact as a list, in which the facts that it is made of stand instead of their texts."""
    if fact.word in SIGNS:
        return ["(", fact.parts[0], f" {fact.word} ", fact.parts[1], ")"]
    if fact.word == "not":
        return ["not ", fact.parts[0]]
    plain = ", ".join([argument_text(argument) for argument in fact.plain])
    if fact.word == "since":
        return ["since(", plain, ", ", fact.parts[0], ")"]
    if len(fact.parts) == 0:
        return [f"{fact.word}({plain})"]
    if fact.word == "retold":
        pairs = [f", {key}: {value}" for key, value in fact.plain]
        return ["retold(", fact.parts[0], *pairs, ")"]
    return [f"{fact.word}(", fact.parts[0], f", {plain})"]


def argument_text(argument):
    """The text of a group, a pattern, a number or a tell."""
    return " ".join(argument) if isinstance(argument, tuple) else str(argument)


def read_fact(text):
    """The fact with this text."""
    if len(text) > LONGEST_TEXT:
        raise BadText(1)
    try:
        fact = parsed(text)
        written_again = fact_text(fact)
    except LooksError:
        raise BadText(1) from None
    # It is read with less care than it is written with; so other texts of the fact are found out here.
    if written_again != text:
        raise BadText(1)
    return fact


def parsed(text):
    """The fact that a text tells, perhaps with spaces, zeros and keys that its own text does not have."""
    at = 0
    fact = None
    # The facts that have begun and not ended, the innermost one last, each as the list of what was read of it.
    waiting = []
    while True:
        if fact is None:
            at, fact, begun = beginning(text, at)
            waiting.extend(begun)
        elif len(waiting) == 0:
            break
        else:
            at, fact, begun = ending(text, at, waiting.pop(), fact)
            waiting.extend(begun)
    if at < len(text):
        raise BadText(1)
    return fact


def beginning(text, at):
    """What stands where a fact begins: the place behind it, the fact if it is simple, the list of what has begun."""
    if text.startswith("not ", at):
        return (at + 4, None, [["not"]])
    if text.startswith("(", at):
        return (at + 1, None, [["("]])
    for word in OUTER[1:]:
        if text.startswith(word, at):
            return (at + len(word), None, [[word]])
    if text.startswith("since(", at):
        end = found_behind(text, ", ", at)
        return (end, None, [["since(", text[at + 6:end - 2].split(" ")]])
    end = found_behind(text, ")", at)
    word, _, inside = text[at:end - 1].partition("(")
    return (end, simple_fact(word, inside.split(", ")), [])


def found_behind(text, piece, at):
    """The place behind the first such piece of the text from a place on."""
    found = text.find(piece, at)
    if found < 0:
        raise BadText(1)
    return found + len(piece)


def ending(text, at, begun, fact):
    """What stands behind the inner fact of a fact that has begun: the place behind it, and as `beginning` says."""
    if begun[0] == "not":
        return (at, Not(fact), [])
    if begun[0] == "(":
        for sign in SIGNS:
            if text.startswith(f" {sign} ", at):
                return (at + len(sign) + 2, None, [[sign, fact]])
        raise BadText(1)
    end = found_behind(text, ")", at)
    rest = text[at:end - 1]
    if begun[0] in OUTER and begun[0] != "since(":
        return (end, fact_around(begun[0], fact, rest.split(", ")), [])
    if rest != "":
        raise BadText(1)
    if begun[0] == "since(":
        return (end, Since(begun[1], fact), [])
    return (end, joined_fact(begun[0], begun[1], fact), [])


def joined_fact(sign, one, two):
    """The fact that is made of two facts with a sign in between."""
    if sign == "and":
        return And(one, two)
    if sign == "or":
        return Or(one, two)
    return Xor(one, two) if sign == "xor" else Both(one, two)


def fact_around(word, fact, rest):
    """The fact that is made of another one and of what stands behind that one, parted at the commas."""
    if word == "once(" and len(rest) == 2:
        return Once(fact, rest[1])
    if word == "changes(" and len(rest) == 2:
        return Changes(fact, read_number(rest[1]))
    if word != "retold(":
        raise BadText(1)
    table = {}
    for pair in rest[1:]:
        key, _, value = pair.partition(": ")
        table[key] = value
    return Retold(fact, table)


def read_number(digits):
    """The number that is written in digits."""
    if digits == "" or not all([digit in DIGITS for digit in digits]):
        raise BadText(1)
    return int(digits)


def simple_fact(word, arguments):
    """The simple fact with this word and the texts of its arguments."""
    if word == "recent" and len(arguments) == 1:
        return Recent(read_number(arguments[0]))
    groups = [argument.split(" ") for argument in arguments]
    if len(groups) == 1:
        return fact_of_one(word, groups[0])
    if len(groups) == 2 and word == "ahead":
        return Ahead(groups[0], groups[1])
    number = read_number(arguments[-1])
    if len(groups) == 2 and word == "count":
        return Count(groups[0], number)
    if len(groups) == 2 and word == "turn":
        return Turn(groups[0], number)
    if len(groups) == 3 and word == "level":
        return Level(groups[0], groups[1], number)
    raise BadText(1)


def fact_of_one(word, deeds):
    """The simple fact with this word and a single group or pattern."""
    if word == "done":
        return Done(deeds)
    if word == "latest":
        return Latest(deeds)
    if word == "ends":
        return Ends(deeds)
    if word == "has":
        return Has(deeds)
    if word == "scattered":
        return Scattered(deeds)
    raise BadText(1)
