"""Values of every form that a caller can pass, right and wrong ones."""

from fallsback.base.machines import Machine
from fallsback.desk.desk import Desk
from fallsback.errors import InvalidNumber
from fallsback.plan.rules import Rule
from fallsback.rows.ledgers import Ledger
from fallsback.run.histories import History
from fallsback.run.runs import Run
from fallsback.text.formats import write_program
from fallsback.text.shell import Shell
from tests.samples import TALK


def nested(deep):
    """A tuple that is nested so deep, with lists and dicts in it."""
    value = ()
    for level in range(deep - 1):
        value = (value,) if level % 3 == 0 else [value] if level % 3 == 1 else {"k": value}
    return value


INTEGERS = (0, 1, 5, 6, 9, 10, -1, -2, 10 ** 60 - 1, -(10 ** 60) + 1)
TOO_LONG = (10 ** 60, -(10 ** 60), 10 ** 100 - 1, -(10 ** 100) + 1)
TRUTHS = (True, False)
TEXTS = ("", "a", "save", "note", "send", "0", "A", "a b", "a\n", "~" * 4000)
TUPLES = ((), (0,), (0, 0), (0, 0, 0), (True, 0), ("send", "m"), ("a", 0), ("a",), ((), ()), nested(10))
LISTS = ([], [0], [0, 0], ["work", None, 0, 0, None], ["a", 0], [[]])
DICTS = ({}, {0: 0}, {"a": []}, {"a": 0, "b": 0}, {(0, 0): ()})
OBJECTS = (
    Machine(()), InvalidNumber(0), TALK, Run(TALK), Run(TALK, ("a", 0)), History(TALK, ("a",)), Ledger(TALK),
    Rule.each(("send", "ask")), Desk(TALK), Shell(write_program(TALK)),
)

OTHERS = TOO_LONG + TRUTHS + (None,) + TEXTS + TUPLES + LISTS + DICTS + OBJECTS
EVERY = INTEGERS + OTHERS


def without(values, *right):
    """The values that are none of those that are right, told by their texts: True is not 1."""
    texts = [repr(value) for value in right]
    return [value for value in values if repr(value) not in texts]
