"""A shell: a desk that is told what to do in lines."""

from fallsback.base.programs import check_process
from fallsback.base.words import is_word
from fallsback.desk.desk import Desk
from fallsback.errors import InvalidNumber, InvalidOperation, InvalidRun, Needed, NothingToUndo, TooMany, UnknownName
from fallsback.later.outputs import needed
from fallsback.later.useless import useless_places
from fallsback.rows.losses import greatest_loss
from fallsback.rows.standings import touches
from fallsback.run.lines import lost
from fallsback.text.formats import read_program, write_events
from fallsback.text.words import number_of

_NOTHING = "none"


class Shell:
    """A shell over a desk for the program with this text."""

    def __init__(self, text):
        self._desk = Desk(read_program(text))

    def desk(self):
        """A twin of the desk."""
        return self._desk.twin()

    def answer(self, line):
        """Does the command of a line, or answers its question, and returns a text."""
        return _answer(self._desk, line)

    def __call__(self, line):
        return _answer(self._desk, line)


def _answer(desk, line):
    """What the shell answers, also if a call raises an error."""
    if not isinstance(line, str):
        return "what"
    try:
        return _done(desk, line.split(" "))
    except UnknownName as unknown:
        return f"unknown {unknown.name}"
    except InvalidRun as stopped:
        return f"run {stopped.index}"
    except InvalidNumber as wrong:
        return f"number {wrong.value}"
    except InvalidOperation:
        return "operation"
    except NothingToUndo as missing:
        return f"undo {missing.many}"
    except Needed as kept:
        return f"needed {kept.place}"
    except TooMany as beyond:
        return f"many {beyond.limit}"


def _done(desk, words):
    """The answer to a line of these words."""
    head, rest = words[0], words[1:]
    if head == "do":
        return _do(desk, " ".join(rest).split(", "))
    if head == "forget":
        return _forget(desk, rest)
    if head in ("undo", "redo"):
        return _go(desk, head, rest)
    if not rest:
        return _bare(desk, head)
    if not all([is_word(name) for name in rest]):
        return "what"
    if head == "fail":
        desk.fail(*rest)
        return "done"
    if head == "lost":
        run = desk.run
        return _listed([f"{name} {loss}" for name, loss in lost(run, *rest).items()])
    return _asked(desk, head, rest)


def _do(desk, parts):
    """Does the steps that the parts of a line tell."""
    steps = [part.split(" ") for part in parts]
    if not all([_is_named_number(step) for step in steps]):
        return "what"
    told = [(name, number_of(number)) for name, number in steps]
    desk.do(*told)
    return "done"


def _forget(desk, words):
    if not _is_named_number(words):
        return "what"
    desk.forget(words[0], number_of(words[1]))
    return "done"


def _go(desk, head, words):
    """Takes calls back or does them again."""
    many = number_of(words[0]) if len(words) == 1 else 1
    if len(words) > 1 or many is None:
        return "what"
    if head == "undo":
        desk.undo(many=many)
    else:
        desk.redo(many=many)
    return "done"


def _bare(desk, head):
    """The answer to a line of one word."""
    if head == "sweep":
        return str(desk.sweep())
    if head == "release":
        return _listed([f"{name} {number}" for name, number in desk.release()])
    if head == "can":
        return _listed([f"{name} {number}" for name, number in desk.run.possible])
    if head == "events":
        return write_events(desk.events) if desk.events else _NOTHING
    return "what"


def _asked(desk, head, names):
    """The answer to a question about one or two processes."""
    if len(names) != {"kept": 1, "needed": 1, "useless": 1, "loss": 2, "touches": 2}.get(head):
        return "what"
    for name in names:
        check_process(desk.program, name)
    if head == "kept":
        return _spaced(desk.kept[names[0]])
    if head == "needed":
        return _spaced(needed(desk.run)[names[0]])
    if head == "useless":
        return _spaced(useless_places(desk.run)[names[0]])
    if head == "touches":
        return "yes" if (names[0], names[1]) in touches(desk.program) else "no"
    loss = greatest_loss(desk.program, names[0], names[1])
    return "no bound" if loss is None else str(loss)


def _is_named_number(words):
    """Whether these are a name and a number."""
    return len(words) == 2 and is_word(words[0]) and number_of(words[1]) is not None


def _listed(lines):
    return "\n".join(lines) if lines else _NOTHING


def _spaced(places):
    return " ".join([str(place) for place in places]) if places else _NOTHING
