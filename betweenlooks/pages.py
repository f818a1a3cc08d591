"""Pages: the lines that tell the steps of a desk."""

from betweenlooks.errors import BadText
from betweenlooks.texts import read_fact
from betweenlooks.words import DIGITS

# Nothing that a limit may be has more digits; far longer numbers would take their time.
MOST_DIGITS = 31


def deeds_line(deeds):
    """The first line of a page."""
    return "deeds " + " ".join(deeds)


def limit_line(timing):
    """The line of a new timing."""
    most = "none" if timing.most is None else str(timing.most)
    return " ".join(["limit", most] + list(timing.owed))


def read_deeds(line):
    """The deeds that the first line tells."""
    words = line.split(" ")
    if words[0] != "deeds":
        raise BadText(1)
    return words[1:]


def read_step(line):
    """What a line of a step says, perhaps with zeros that its own text does not have: the word, and the arguments."""
    words = line.split(" ")
    if words[0] in ("put", "ask") and len(words) > 3:
        return (words[0], [words[1], read_fact(" ".join(words[3:])), words[2]])
    if words[0] in ("drop", "admit", "bar") and len(words) == 2:
        return (words[0], words[1:])
    if words[0] == "limit" and len(words) > 1:
        return ("limit", [read_most(words[1]), words[2:]])
    raise BadText(1)


def read_most(word):
    """The limit that a word tells."""
    if word == "none":
        return None
    if not 1 <= len(word) <= MOST_DIGITS or not all([sign in DIGITS for sign in word]):
        raise BadText(1)
    return int(word)
