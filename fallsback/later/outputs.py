"""What can still be thrown back: the places that must be kept, and the steps that can never be taken back."""

from fallsback.base.programs import check_process
from fallsback.base.words import is_below, is_integer
from fallsback.errors import InvalidNumber, TooMany
from fallsback.later.layouts import Outlook, layout_of, needed_levels, nexts_to_failures, recalls_of
from fallsback.later.scenes import Walk, begins_of, scene_of
from fallsback.run.histories import is_failure
from fallsback.run.pieces import places_of
from fallsback.run.runs import check_run

MAX_LAYOUTS = 2000


def targets(run):
    """The dict from all processes to the places at which rows of processes begin."""
    check_run(run)
    scene = scene_of(run)
    begins = [begins_of(scene, holder) for holder in range(len(run.program))]
    found = {}
    for process, name in enumerate(run.program.processes):
        numbers = sorted({row[process] for row in begins if process in row})
        found[name] = tuple([scene[2][process][number][0] for number in numbers])
    return found


def held(run):
    """The dict from all processes to the places at which rows of any holders begin."""
    check_run(run)
    return {name: tuple([place for place, _, _ in rows])
            for name, rows in zip(run.program.processes, scene_of(run)[2])}


def needed(run):
    """The dict from all processes to the ascending tuples of their needed places."""
    check_run(run)
    scene = scene_of(run)
    levels = _needed_levels(run, scene)
    return {name: tuple([place for (place, _, _), must in zip(scene[2][process], levels[process]) if must])
            for process, name in enumerate(run.program.processes)}


def recall(run, process, place):
    """Any events that follow, the last one a failure that throws the process back to this place, or None."""
    _check_place(run, process, place)
    return _recalls(run)[process].get(place)


def is_recall(run, process, place, value):
    """Whether the value is a tuple of such events."""
    _check_place(run, process, place)
    falls = _falls(run, value, process)
    if falls is None or falls[-1] != place:
        return False
    # A place that is thrown back and made again is another one.
    return all([fall is None or fall >= place for fall in falls])


def is_settled(run, index):
    """Whether no events that follow throw the step with this index back."""
    process, own = _own_step(run, index)
    return not any([place <= own for place in needed(run)[process]])


def unsettling(run, index):
    """Any events that follow, the last one a failure of one process by which this step is thrown back, or None."""
    process, own = _own_step(run, index)
    recalls = _recalls(run)[process]
    found = [events for place, events in recalls.items() if place <= own and events is not None]
    # No events ahead of the last one throw the step back: they would recall a later one of these places, or the same
    # one sooner.
    return found[-1] if found else None


def is_unsettling(run, index, value):
    """Whether the value is a tuple of such events."""
    process, own = _own_step(run, index)
    falls = _falls(run, value, process)
    if falls is None or not _throws_back(falls[-1], own):
        return False
    # A step that is thrown back and made again is another one.
    return not any([_throws_back(place, own) for place in falls[:-1]])


def _check_place(run, process, place):
    check_run(run)
    check_process(run.program, process)
    if not is_integer(place) or place not in places_of(run, process):
        raise InvalidNumber(place)


def _own_step(run, index):
    """The process of the step with this index, and how many steps it has made ahead of it."""
    check_run(run)
    if not is_below(index, len(run)) or run.beats[index][2] is None:
        raise InvalidNumber(index)
    return run[index][0], run.beats[index][2]


def _recalls(run):
    """The dict from all processes to dicts from their places at which rows begin to the events that recall them."""
    if "recalls" not in run.known:
        run.known["recalls"] = _found_recalls(run)
    if run.known["recalls"] is None:
        raise TooMany(MAX_LAYOUTS)
    return run.known["recalls"]


def _found_recalls(run):
    """The dict as above, or None if there are too many layouts."""
    program = run.program
    scene = scene_of(run)
    outlook = Outlook(program, scene, MAX_LAYOUTS)
    if len(outlook.layouts) > MAX_LAYOUTS:
        return None
    nexts = nexts_to_failures(program, outlook)
    known = _known_levels(program)
    for layout, levels in needed_levels(nexts, outlook.layouts).items():
        known[layout] = levels
    recalls = recalls_of(nexts, outlook.layouts[0])
    return {name: {place: events for (place, _, _), events in zip(rows, recalls[process])}
            for process, (name, rows) in enumerate(zip(program.processes, scene[2]))}


def _known_levels(program):
    """The dict from the layouts that were found so far to their needed levels.

    Behind a run with one of them there are not too many layouts: they were among those behind another run.
    """
    return program.known.setdefault("levels", {})


def _needed_levels(run, scene):
    """For each process a tuple: which places of its levels in the scene behind the run are needed."""
    layout = layout_of(scene)
    if layout not in _known_levels(run.program):
        # This finds out about all layouts behind the run at once.
        _recalls(run)
    return _known_levels(run.program)[layout]


def _falls(run, value, process):
    """For each failure among the events the place of the run to which it throws the process back, None if it throws it
    back to no such place. It is None instead if the value is no tuple of events that follow, the last one a failure of
    one process.
    """
    program = run.program
    if not isinstance(value, tuple) or not value or not is_failure(program, value[-1]) or len(value[-1]) != 1:
        return None
    walk = Walk(run)
    falls = []
    for event in value:
        if is_failure(program, event):
            falls.append(walk.fall(event, process))
        elif not walk.follow(event):
            return None
    return falls


def _throws_back(place, own):
    """Whether a fall to this place, or to none, throws back a step ahead of which its process has made so many."""
    return place is not None and place <= own
