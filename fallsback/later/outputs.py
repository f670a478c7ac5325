"""What can still be thrown back: the places that must be kept, and the steps that can never be taken back."""

from fallsback.base.programs import check_process
from fallsback.base.words import is_below, is_integer
from fallsback.errors import InvalidNumber, TooMany
from fallsback.later.layouts import Outlook
from fallsback.later.scenes import Walk, begins_of
from fallsback.run.histories import is_failure
from fallsback.run.pieces import places_of
from fallsback.run.runs import check_run

MAX_LAYOUTS = 2000


def targets(run):
    """The dict from all processes to the places at which rows of processes begin."""
    check_run(run)
    scene = Walk(run).scene
    begins = [begins_of(scene, holder) for holder in range(len(run.program))]
    found = {}
    for process, name in enumerate(run.program.processes):
        numbers = sorted({row[process] for row in begins if process in row})
        found[name] = tuple([scene[2][process][number][0] for number in numbers])
    return found


def held(run):
    """The dict from all processes to the places at which rows of any holders begin."""
    check_run(run)
    return {name: tuple([place for place, _, _ in rows])
            for name, rows in zip(run.program.processes, Walk(run).scene[2])}


def needed(run):
    """The dict from all processes to the ascending tuples of their needed places."""
    check_run(run)
    recalls = _recalls(run)
    return {name: tuple([place for place in recalls[name] if recalls[name][place] is not None]) for name in recalls}


def recall(run, process, place):
    """Any events that follow, the last one a failure that throws the process back to this place, or None."""
    _check_place(run, process, place)
    return _recalls(run)[process].get(place)


def is_recall(run, process, place, value):
    """Whether the value is a tuple of such events."""
    _check_place(run, process, place)
    falls = _falls(run, value, process)
    if falls is None or falls[-1] != place:
        return False
    # A place that is thrown back and made again is another one.
    return all([fall is None or fall >= place for fall in falls])


def is_settled(run, index):
    """Whether no events that follow throw the step with this index back."""
    return unsettling(run, index) is None


def unsettling(run, index):
    """Any events that follow, the last one a failure of one process by which this step is thrown back, or None."""
    process, own = _own_step(run, index)
    recalls = _recalls(run)[process]
    for place in recalls:
        if place <= own and recalls[place] is not None:
            return _until_thrown_back(run, process, own, recalls[place])
    return None


def is_unsettling(run, index, value):
    """Whether the value is a tuple of such events."""
    process, own = _own_step(run, index)
    falls = _falls(run, value, process)
    return falls is not None and _first_below(falls, own) == len(falls) - 1


def _check_place(run, process, place):
    check_run(run)
    check_process(run.program, process)
    if not is_integer(place) or place not in places_of(run, process):
        raise InvalidNumber(place)


def _own_step(run, index):
    """The process of the step with this index, and how many steps it has made ahead of it."""
    check_run(run)
    if not is_below(index, len(run)) or run.beats[index][2] is None:
        raise InvalidNumber(index)
    return run[index][0], run.beats[index][2]


def _recalls(run):
    """The dict from all processes to dicts from their places at which rows begin to the events that recall them."""
    if "recalls" not in run.known:
        run.known["recalls"] = _found_recalls(run)
    if run.known["recalls"] is None:
        raise TooMany(MAX_LAYOUTS)
    return run.known["recalls"]


def _found_recalls(run):
    """The dict as above, or None if there are too many layouts."""
    scene = Walk(run).scene
    outlook = Outlook(run.program, scene, MAX_LAYOUTS)
    if len(outlook.layouts) > MAX_LAYOUTS:
        return None
    recalls = outlook.recalls(run.program)
    return {name: {place: events for (place, _, _), events in zip(rows, recalls[process])}
            for process, (name, rows) in enumerate(zip(run.program.processes, scene[2]))}


def _falls(run, value, process):
    """For each of the events that follow the place to which it throws the process back, or None.

    It is None instead if the value is no tuple of such events, the last one a failure of one process.
    """
    program = run.program
    if not isinstance(value, tuple) or not value or not is_failure(program, value[-1]) or len(value[-1]) != 1:
        return None
    walk = Walk(run)
    falls = []
    for event in value:
        if is_failure(program, event):
            falls.append(walk.fall(event, process))
        elif walk.follow(event):
            falls.append(None)
        else:
            return None
    return falls


def _first_below(falls, own):
    """The number of the first event that throws back a step ahead of which its process has made so many."""
    found = [at for at, place in enumerate(falls) if place is not None and place <= own]
    return found[0] if found else None


def _until_thrown_back(run, process, own, events):
    """The first ones of the events, up to the failure by which the step is thrown back."""
    return events[:_first_below(_falls(run, events, process), own) + 1]
