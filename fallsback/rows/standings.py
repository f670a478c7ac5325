"""Standings: what all runs of a program come to, and which failures touch which processes."""

from fallsback.base.programs import check_apart, check_program
from fallsback.errors import InvalidOperation, TooMany
from fallsback.rows.ledgers import Ledger
from fallsback.rows.spots import first_spot, payment, spot_behind, standing_at, steps_from
from fallsback.run.lines import thrown_back
from fallsback.run.runs import run_of

MAX_STANDINGS = 2000


class Atlas:
    """All standings of a program, numbered from 0 on, the nearest ones first, and the steps between them.

    `spots` has the spots of the standings, and `origins` a pair for each: the number of a standing ahead of it and the
    step that leads from there, None for the first one. `ways` has for each the tuples (step, number, sources, payer,
    price) of the steps from it: the number of the standing behind, the sources of its rows, and what the step costs.
    """

    def __init__(self, program):
        self.spots = [first_spot(program)]
        self.origins = [None]
        self.ways = []
        numbers = {self.spots[0]: 0}
        while len(self.ways) < len(self.spots):
            here = len(self.ways)
            spot = self.spots[here]
            ways = []
            for step in steps_from(program, spot):
                later, sources = spot_behind(program, spot, step)
                if later not in numbers:
                    numbers[later] = len(self.spots)
                    self.spots.append(later)
                    self.origins.append((here, step))
                    if len(self.spots) > MAX_STANDINGS:
                        raise TooMany(MAX_STANDINGS)
                payer, price = payment(program, spot, step)
                ways.append((step, numbers[later], sources, payer, price))
            self.ways.append(ways)

    def steps_to(self, number):
        """The steps of a shortest run to the standing with this number."""
        steps = []
        while self.origins[number] is not None:
            number, step = self.origins[number]
            steps.append(step)
        return tuple(steps[::-1])


def first_standing(program):
    """The standing at the beginning."""
    check_program(program)
    return standing_at(program, first_spot(program))


def standing_of(run):
    """The standing behind a run."""
    return Ledger.of(run).standing


def standings(program):
    """All standings of the program, ascending by `repr`."""
    check_program(program)
    return _told(program, Atlas(program))


def steps_at(program, standing):
    """The ascending tuple of the steps that are possible at a standing, each with the standing behind it."""
    check_program(program)
    atlas = Atlas(program)
    number = _number_of(program, atlas, standing)
    return tuple([(step, standing_at(program, atlas.spots[later])) for step, later, _, _, _ in atlas.ways[number]])


def run_to(program, standing):
    """The steps of a shortest run behind which this standing stands."""
    check_program(program)
    atlas = Atlas(program)
    return atlas.steps_to(_number_of(program, atlas, standing))


def touches(program):
    """The ascending tuple of the pairs (r, p) of processes such that a failure of r can throw back a step of p."""
    check_program(program)
    atlas = Atlas(program)
    names = program.processes
    return tuple([(failed, process) for failed in names for process in names
                  if failed != process and _number_with(program, atlas, failed, process) is not None])


def touch_paper(program, failed, process):
    """Any paper that shows whether a failure of the first process can throw back a step of the second one."""
    _check_two(program, failed, process)
    atlas = Atlas(program)
    number = _number_with(program, atlas, failed, process)
    if number is None:
        return ("never", _told(program, atlas))
    return ("run", atlas.steps_to(number))


def is_touch_paper(program, failed, process, value):
    """Whether the value is a touch paper for these processes."""
    _check_two(program, failed, process)
    if not isinstance(value, tuple) or len(value) != 2:
        return False
    word, shown = value
    if word == "run":
        return _throws_back(program, failed, process, shown)
    return word == "never" and _is_never(program, failed, process, shown)


def _number_with(program, atlas, failed, process):
    """The number of a nearest standing at which the row of the first process has the second one, or None."""
    holder, other = program.processes.index(failed), program.processes.index(process)
    for number, spot in enumerate(atlas.spots):
        if spot[3][holder] >> other & 1:
            return number
    return None


def atlas_of(program):
    """The atlas of the program, or None if it has too many standings."""
    try:
        return Atlas(program)
    except TooMany:
        return None


def _told(program, atlas):
    """The tuple of all standings, ascending by `repr`."""
    return tuple(sorted([standing_at(program, spot) for spot in atlas.spots], key=lambda standing: repr(standing)))


def _number_of(program, atlas, value):
    """The number of the standing that the value is."""
    text = repr(value)
    for number, spot in enumerate(atlas.spots):
        if repr(standing_at(program, spot)) == text:
            return number
    raise InvalidOperation("this is no standing of the program")


def _check_two(program, failed, process):
    """Raises an error unless the names are those of two different processes of a program."""
    check_program(program)
    check_apart(program, (failed, process))


def _throws_back(program, failed, process, steps):
    """Whether these are the steps of a run behind which a failure of the first process throws back the second one."""
    run = run_of(program, steps)
    return run is not None and any([run[at][0] == process for at in thrown_back(run, failed)])


def _is_never(program, failed, process, value):
    """Whether the value has all standings, and none of them lets the first process throw back the second one."""
    atlas = atlas_of(program)
    if atlas is None or _number_with(program, atlas, failed, process) is not None:
        return False
    return repr(value) == repr(_told(program, atlas))
