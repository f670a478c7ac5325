"""Further keepings: which ones bound the losses."""

from fallsback.base.programs import check_program, is_mark
from fallsback.base.words import KEEPINGS, is_integer
from fallsback.errors import InvalidNumber, InvalidOperation, TooMany
from fallsback.rows.losses import entries_of
from fallsback.rows.standings import full_atlas

MAX_MARKS = 6


def is_bounded(program, limit=None):
    """Whether no failure of a process causes any process a greater loss than the limit, or, without one, none without
    bound.
    """
    check_program(program)
    _check_limit(limit)
    return _is_within(program, limit)


def least_marks(program, marks, limit=None):
    """The sets of some of these marks that are enough and contain no other one that is."""
    _check_marks(program, marks, limit)
    enough = _are_enough(program, marks, limit)
    bits = [1 << number for number in range(len(marks))]
    return _told(marks, [picked for picked in range(len(enough)) if enough[picked]
                         and not any([enough[picked - bit] for bit in bits if picked & bit])])


def short_marks(program, marks, limit=None):
    """The sets of some of these marks that are not enough and are contained in no other one that is not."""
    _check_marks(program, marks, limit)
    enough = _are_enough(program, marks, limit)
    bits = [1 << number for number in range(len(marks))]
    return _told(marks, [picked for picked in range(len(enough)) if not enough[picked]
                         and all([enough[picked + bit] for bit in bits if not picked & bit])])


def is_greater_keeping(one, other):
    """Whether the one keeping is greater than the other one."""
    return KEEPINGS.index(one) > KEEPINGS.index(other)


def _is_within(program, limit):
    """Whether all losses are bounded, and none is greater than the limit, if there is one."""
    atlas = full_atlas(program)
    many = len(program)
    for process in range(many):
        entries = entries_of(atlas, process)
        found = [entries.greatest(holder) for holder in range(many)]
        if None in found or (limit is not None and max(found) > limit):
            return False
    return True


def _check_limit(limit):
    if limit is not None and not (is_integer(limit) and limit >= 0):
        raise InvalidNumber(limit)


def _check_marks(program, marks, limit):
    check_program(program)
    if not isinstance(marks, tuple) or not all([_is_further(program, mark) for mark in marks]):
        raise InvalidOperation("the marks are a tuple of further ones")
    if not all([one[:3] < other[:3] for one, other in zip(marks, marks[1:])]):
        raise InvalidOperation("the marks ascend, and are of different moves")
    _check_limit(limit)
    if len(marks) > MAX_MARKS:
        raise TooMany(MAX_MARKS)


def _is_further(program, value):
    """Whether the value is a mark with a greater keeping than that of its move."""
    if not is_mark(program, value):
        return False
    process, state, number, keeping = value
    return is_greater_keeping(keeping, program[process][state, number][4])


def _are_enough(program, marks, limit):
    """For each set of the marks whether it is enough; its number has a bit for each mark."""
    whole = _is_within(program.with_keeping(*marks), limit)
    found = []
    for picked in range(1 << len(marks)):
        chosen = _chosen(marks, picked)
        marked = program.with_keeping(*chosen)
        # Looked for in any case: a set can have too many standings though one in it is enough.
        full_atlas(marked)
        smaller = [found[picked - (1 << number)] for number in range(len(marks)) if picked >> number & 1]
        # What the set of all marks does not bound, none of them does.
        found.append(whole and (any(smaller) or _is_within(marked, limit)))
    return found


def _chosen(marks, picked):
    """The tuple of the marks of the set with this number."""
    return tuple([mark for number, mark in enumerate(marks) if picked >> number & 1])


def _told(marks, numbers):
    """The ascending tuple of the sets with these numbers."""
    return tuple(sorted([_chosen(marks, picked) for picked in numbers]))
