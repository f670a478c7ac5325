"""Formats: programs, events and values as texts."""

from fallsback.base.programs import check_program
from fallsback.base.words import is_integer, is_word
from fallsback.errors import InvalidOperation, ParseError
from fallsback.text.drafts import Draft
from fallsback.text.words import event_of, is_failure_of_words, is_step_of_words, number_of

_MOST_DEEP = 8
_WORDS = {"-": None, "yes": True, "no": False}


def write_program(program):
    """The text of a program."""
    check_program(program)
    lines = [_kind_line(kind, program[kind]) for kind in program.kinds]
    for process in program.processes:
        lines.append(f"process {process}")
        for state in program[process].states:
            lines.append("state")
            lines.extend([_move_line(move) for move in state])
    return "\n".join(lines)


def write_events(events):
    """The text of a tuple of events."""
    if not isinstance(events, tuple) or not all([is_step_of_words(event) or is_failure_of_words(event)
                                                 for event in events]):
        raise InvalidOperation("the events are a tuple of steps and failures")
    return "\n".join([_event_line(event) for event in events])


def write_value(value):
    """The text of a value."""
    words = _words_of(value, _MOST_DEEP)
    if words is None:
        raise InvalidOperation("this value has no text")
    return " ".join(words)


def read_program(text):
    """The program with this text."""
    lines = _lines_of(text)
    draft = Draft()
    for at, line in enumerate(lines):
        if not draft.reads(line.split(" ")):
            raise ParseError(at)
    program = draft.done()
    if program is None:
        raise ParseError(len(lines))
    return program


def read_events(text):
    """The events with this text."""
    events = []
    for at, line in enumerate(_lines_of(text)):
        event = event_of(line.split(" "))
        if event is None:
            raise ParseError(at)
        events.append(event)
    return tuple(events)


def read_value(text):
    """The value with this text."""
    lines = _lines_of(text)
    words = lines[0].split(" ") if lines else []
    part = _part_at(words, 0, _MOST_DEEP)
    if part is None or part[1] < len(words):
        raise ParseError(0)
    if len(lines) > 1:
        raise ParseError(1)
    return part[0]


def _lines_of(text):
    """The list of the lines of a text."""
    if not isinstance(text, str):
        raise InvalidOperation("a text is a string")
    return [] if text == "" else text.split("\n")


def _kind_line(name, kind):
    sender, receiver, room, sure = kind
    word = "sure" if sure else "losable"
    return f"kind {name} {sender} {receiver} {room} {word}"


def _move_line(move):
    act, kind, target, price, keeping = move
    head = act if kind is None else f"{act} {kind}"
    line = f"{head} {target} cost {price}"
    return line if keeping is None else f"{line} {keeping}"


def _event_line(event):
    if is_step_of_words(event):
        return f"{event[0]} {event[1]}"
    return " ".join(["fail", *event])


def _words_of(value, deep):
    """The words of a value that is nested at most so deep, or None if it has no text."""
    if value is None or value is True or value is False:
        return ["-" if value is None else "yes" if value else "no"]
    if is_integer(value):
        return [str(value)]
    if is_word(value):
        return ["=" + value]
    if deep == 0:
        return None
    if isinstance(value, tuple):
        return _enclosed("(", [_words_of(part, deep - 1) for part in value], ")")
    if isinstance(value, dict):
        keys = sorted(value, key=lambda key: repr(key))
        return _enclosed("{", [_words_of(part, deep - 1) for key in keys for part in (key, value[key])], "}")
    return None


def _enclosed(before, parts, behind):
    """The words of the parts between two others, or None if one of the parts has none."""
    if None in parts:
        return None
    return [before, *[word for words in parts for word in words], behind]


def _part_at(words, at, deep):
    """The pair (value, number of the word behind it) of the value at this word, nested at most so deep, or None."""
    if at >= len(words):
        return None
    word = words[at]
    if word in ("(", "{"):
        return None if deep == 0 else _nested_at(words, at, deep - 1)
    if word in _WORDS:
        return _WORDS[word], at + 1
    if word[:1] == "=" and is_word(word[1:]):
        return word[1:], at + 1
    number = number_of(word[1:] if word[:1] == "-" else word)
    if number is None or word == "-0":
        return None
    return -number if word[0] == "-" else number, at + 1


def _nested_at(words, at, deep):
    """The pair as above of the tuple or dict that begins at this word."""
    end = ")" if words[at] == "(" else "}"
    begin = at
    parts = []
    at += 1
    while at < len(words) and words[at] != end:
        part = _part_at(words, at, deep)
        if part is None:
            return None
        value, at = part
        parts.append(value)
    if at == len(words):
        return None
    if words[begin] == "(":
        return tuple(parts), at + 1
    table = _table_of(parts)
    return None if table is None else (table, at + 1)


def _table_of(parts):
    """The dict of these keys and values by turns, or None if there is no such dict, or its keys do not ascend."""
    keys = parts[::2]
    if len(parts) != 2 * len(parts[1::2]) or not all([_is_key(key) for key in keys]):
        return None
    texts = [repr(key) for key in keys]
    if not all([text < later for text, later in zip(texts, texts[1:])]):
        return None
    table = dict(zip(keys, parts[1::2]))
    # Keys with other texts can be equal: True and 1.
    return table if len(table) == len(keys) else None


def _is_key(value):
    """Whether the value can be the key of a dict."""
    if isinstance(value, tuple):
        return all([_is_key(part) for part in value])
    return not isinstance(value, dict)
