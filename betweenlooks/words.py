"""What counts as a word, a tell, an integer, an index and a list of deeds."""

from betweenlooks.errors import BadDeeds, TooMany

LETTERS = "abcdefghijklmnopqrstuvwxyz"
DIGITS = "0123456789"
LONGEST_WORD = 12
LONGEST_TELL = 60
MOST_DEEDS = 6
LONGEST_PATTERN = 12
KINDS = ("carried", "stretch", "joined", "taken")
LATE_KINDS = ("joined", "taken")
RULES = ("kept", "cleared")


def is_integer(value):
    """Whether a value is an integer; True and False are none."""
    return isinstance(value, int) and not isinstance(value, bool)


def is_index(value, many):
    """Whether a value is an index of so many things."""
    return is_integer(value) and 0 <= value < many


def is_word(value):
    """Whether a value is a word, and so may be a deed."""
    if not isinstance(value, str) or not 1 <= len(value) <= LONGEST_WORD:
        return False
    return value[0] in LETTERS and all([sign in LETTERS + DIGITS for sign in value])


def is_tell(value):
    """Whether a value is a tell."""
    if not isinstance(value, str) or not 1 <= len(value) <= LONGEST_TELL:
        return False
    return all([sign in LETTERS + DIGITS + "/" for sign in value])


def check_different(deeds):
    """Raise BadDeeds unless these are different deeds."""
    for index, deed in enumerate(deeds):
        if not is_word(deed) or deed in deeds[:index]:
            raise BadDeeds(index)


def check_group(deeds):
    """Raise BadDeeds unless these are different deeds, and at least one."""
    check_different(deeds)
    if len(deeds) == 0:
        raise BadDeeds(0)


def check_deeds(deeds):
    """Raise an error unless a machine may have these deeds."""
    check_group(deeds)
    if len(deeds) > MOST_DEEDS:
        raise TooMany("deeds", len(deeds), MOST_DEEDS)


def check_row(row):
    """Raise BadDeeds unless all members of a row are deeds."""
    for index, deed in enumerate(row):
        if not is_word(deed):
            raise BadDeeds(index)


def check_pattern(pattern):
    """Raise an error unless this is a pattern: deeds that may be equal, and not too many."""
    check_row(pattern)
    if len(pattern) == 0:
        raise BadDeeds(0)
    if len(pattern) > LONGEST_PATTERN:
        raise TooMany("deeds", len(pattern), LONGEST_PATTERN)
