"""Editions: two programs that differ in their keepings only."""

from fallsback.base.programs import are_alike
from fallsback.base.words import is_below
from fallsback.errors import InvalidOperation, TooMany
from fallsback.plan.marks import is_greater_keeping
from fallsback.plan.pairs import Pairs
from fallsback.run.lines import thrown_back
from fallsback.run.runs import Run, run_of

MAX_PAIRS = 2000


def is_no_worse(one, other):
    """Whether in every run and whichever process fails first, the one throws back no step that the other does not."""
    return parting(one, other) is None


def parting(one, other):
    """Any (steps, process, index): behind these steps a failure of the process throws back the step with this index by
    the one program, and not by the other one. None if there is no such triple.
    """
    _check_alike(one, other)
    pairs = Pairs(one, other, MAX_PAIRS)
    if len(pairs.spots) > MAX_PAIRS:
        raise TooMany(MAX_PAIRS)
    if pairs.lacking is None:
        # Each piece by the one lies in a piece by the other, and so does all to which it leads.
        return None
    # The failure of the process that makes the place throws back the step ahead of it where the place is lacking.
    steps = pairs.steps_behind(pairs.lacking)
    return (steps, steps[-1][0], len(steps) - 1)


def is_parting(one, other, value):
    """Whether the value is such a triple."""
    _check_alike(one, other)
    if not isinstance(value, tuple) or len(value) != 3:
        return False
    steps, process, index = value
    run = run_of(one, steps)
    if run is None or process not in one.processes or not is_below(index, len(run)):
        return False
    return index in thrown_back(run, process) and index not in thrown_back(Run.of(other, steps), process)


def finer(one, other):
    """The program that has for each move the greater keeping of both."""
    return _mixed(one, other, True)


def coarser(one, other):
    """The program that has for each move the lesser keeping of both."""
    return _mixed(one, other, False)


def _check_alike(one, other):
    if not are_alike(one, other):
        raise InvalidOperation("the programs are not alike")


def _mixed(one, other, is_finer):
    """The program that has for each move the greater or the lesser keeping of both."""
    _check_alike(one, other)
    marks = []
    for process in one.processes:
        for state, number, keeping in _keepings_of(other[process]):
            if is_greater_keeping(keeping, one[process][state, number][4]) == is_finer:
                marks.append((process, state, number, keeping))
    return one.with_keeping(*marks)


def _keepings_of(machine):
    """The list of the triples (state, number, keeping) of all moves of a machine."""
    return [(at, number, move[4]) for at, state in enumerate(machine.states) for number, move in enumerate(state)]
