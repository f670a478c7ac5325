"""Words of lines: numbers, events, and whether a line has them."""

from fallsback.base.words import is_integer, is_word

_DIGITS = "0123456789"
_MOST_DIGITS = 60


def number_of(word):
    """The integer of at least 0 that the word is, or None."""
    if not 1 <= len(word) <= _MOST_DIGITS or not all([digit in _DIGITS for digit in word]):
        return None
    return None if word[0] == "0" and word != "0" else int(word)


def event_of(words):
    """The step or the failure that the words are, or None."""
    if len(words) == 2 and is_word(words[0]) and number_of(words[1]) is not None:
        return (words[0], number_of(words[1]))
    if words[0] == "fail" and is_failure_of_words(tuple(words[1:])):
        return tuple(words[1:])
    return None


def is_failure_of_words(value):
    """Whether the value is an ascending tuple of one or more words."""
    if not isinstance(value, tuple) or len(value) == 0 or not all([is_word(name) for name in value]):
        return False
    return list(value) == sorted(set(value))


def is_step_of_words(value):
    """Whether the value is a pair of a word and an integer of at least 0."""
    return isinstance(value, tuple) and len(value) == 2 and is_word(value[0]) and is_integer(value[1]) and value[1] >= 0
