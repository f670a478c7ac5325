"""Integers, words, and what moves are made of."""

MAX_LETTERS = 8
ACTS = ("output", "send", "take", "work")
KEEPINGS = (None, "note", "save")


def is_integer(value):
    """Whether the value is an integer of at most sixty digits."""
    # True and False are of int, too.
    if isinstance(value, bool) or not isinstance(value, int):
        return False
    return -(10 ** 60) < value < 10 ** 60


def is_below(value, limit):
    """Whether the value is an integer of at least 0 and below the limit."""
    return is_integer(value) and 0 <= value < limit


def is_word(value):
    """Whether the value is a word: one to eight letters a to z."""
    if not isinstance(value, str) or not 1 <= len(value) <= MAX_LETTERS:
        return False
    return all(["a" <= letter <= "z" for letter in value])
