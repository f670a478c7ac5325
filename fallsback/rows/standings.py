"""Standings: what all runs of a program come to, and which failures touch which processes."""

from fallsback.base.programs import check_apart, check_program
from fallsback.base.turns import turns_at
from fallsback.errors import InvalidOperation, TooMany
from fallsback.rows.spots import first_spot, slot_in, spot_behind, standing_at
from fallsback.run.lines import thrown_back
from fallsback.run.runs import check_run, run_of

MAX_STANDINGS = 2000


class Atlas:
    """All standings of a program, numbered from 0 on, the nearest ones first, and the steps between them.

    `spots` has the spots of the standings, and `origins` a pair for each: the number of a standing ahead of it and the
    turn that leads from there, None for the first one. `ways` has for each the list of pairs (turn, number) of the
    steps from it, ascending, with the numbers of the standings behind. `known` has what has been found out about them.
    The search ends early if there are more than MAX_STANDINGS.
    """

    def __init__(self, program):
        self.spots = [first_spot(program)]
        self.origins = [None]
        self.ways = []
        self.known = {}
        numbers = {self.spots[0]: 0}
        while len(self.ways) < len(self.spots) <= MAX_STANDINGS:
            here = len(self.ways)
            pose, grid = self.spots[here]
            ways = []
            for turn in turns_at(program.turns, pose):
                later = spot_behind(pose, grid, turn)
                number = numbers.get(later)
                if number is None:
                    number = numbers[later] = len(self.spots)
                    self.spots.append(later)
                    self.origins.append((here, turn))
                ways.append((turn, number))
            self.ways.append(ways)

    def steps_to(self, number):
        """The steps of a shortest run to the standing with this number."""
        steps = []
        while self.origins[number] is not None:
            number, turn = self.origins[number]
            steps.append(turn.step)
        return tuple(steps[::-1])


def atlas_of(program):
    """The atlas of the program, or None if it has too many standings."""
    if "atlas" not in program.known:
        atlas = Atlas(program)
        program.known["atlas"] = None if len(atlas.spots) > MAX_STANDINGS else atlas
    return program.known["atlas"]


def full_atlas(program):
    """The atlas of the program, which has not too many standings."""
    atlas = atlas_of(program)
    if atlas is None:
        raise TooMany(MAX_STANDINGS)
    return atlas


def told_standings(program, atlas):
    """The list of the triples (text, standing, number), ascending by the texts, the `repr` of the standings."""
    if "told" not in atlas.known:
        told = [(standing_at(program, pose, grid), number) for number, (pose, grid) in enumerate(atlas.spots)]
        atlas.known["told"] = sorted([(repr(standing), standing, number) for standing, number in told])
    return atlas.known["told"]


def numbers_by_text(program, atlas):
    """The dict from the texts of the standings to their numbers."""
    if "texts" not in atlas.known:
        atlas.known["texts"] = {text: number for text, _, number in told_standings(program, atlas)}
    return atlas.known["texts"]


def first_standing(program):
    """The standing at the beginning."""
    check_program(program)
    pose, grid = first_spot(program)
    return standing_at(program, pose, grid)


def standing_of(run):
    """The standing behind a run."""
    check_run(run)
    pose, grid = first_spot(run.program)
    for turn, _, _, _, _, _ in run.beats:
        pose, grid = spot_behind(pose, grid, turn)
    return standing_at(run.program, pose, grid)


def standings(program):
    """All standings of the program, ascending by `repr`."""
    check_program(program)
    return _all_standings(program, full_atlas(program))


def steps_at(program, standing):
    """The ascending tuple of the steps that are possible at a standing, each with the standing behind it."""
    check_program(program)
    atlas = full_atlas(program)
    number = _number_of(program, atlas, standing)
    found = []
    for turn, later in atlas.ways[number]:
        pose, grid = atlas.spots[later]
        found.append((turn.step, standing_at(program, pose, grid)))
    return tuple(found)


def run_to(program, standing):
    """The steps of a shortest run behind which this standing stands."""
    check_program(program)
    atlas = full_atlas(program)
    return atlas.steps_to(_number_of(program, atlas, standing))


def touches(program):
    """The ascending tuple of the pairs (r, p) of processes such that a failure of r can throw back a step of p."""
    check_program(program)
    atlas = full_atlas(program)
    names = program.processes
    return tuple([(failed, process) for failed in names for process in names
                  if failed != process and _number_with(program, atlas, failed, process) is not None])


def touch_paper(program, failed, process):
    """Any paper that shows whether a failure of the first process can throw back a step of the second one."""
    _check_two(program, failed, process)
    atlas = full_atlas(program)
    number = _number_with(program, atlas, failed, process)
    if number is None:
        return ("never", _all_standings(program, atlas))
    return ("run", atlas.steps_to(number))


def is_touch_paper(program, failed, process, value):
    """Whether the value is a touch paper for these processes."""
    _check_two(program, failed, process)
    if not isinstance(value, tuple) or len(value) != 2:
        return False
    word, shown = value
    if word == "run":
        return _throws_back(program, failed, process, shown)
    return word == "never" and _is_never(program, failed, process, shown)


def _number_with(program, atlas, failed, process):
    """The number of a nearest standing at which the row of the first process has the second one, or None."""
    holder, other = program.processes.index(failed), program.processes.index(process)
    for number, (_, grid) in enumerate(atlas.spots):
        if slot_in(grid, other) >> holder & 1:
            return number
    return None


def _all_standings(program, atlas):
    """The tuple of all standings, ascending by `repr`."""
    return tuple([standing for _, standing, _ in told_standings(program, atlas)])


def _number_of(program, atlas, value):
    """The number of the standing that the value is."""
    number = numbers_by_text(program, atlas).get(repr(value))
    if number is None:
        raise InvalidOperation("this is no standing of the program")
    return number


def _check_two(program, failed, process):
    """Raises an error unless the names are those of two different processes of a program."""
    check_program(program)
    check_apart(program, (failed, process))


def _throws_back(program, failed, process, steps):
    """Whether these are the steps of a run behind which a failure of the first process throws back the second one."""
    run = run_of(program, steps)
    return run is not None and any([run[at][0] == process for at in thrown_back(run, failed)])


def _is_never(program, failed, process, value):
    """Whether the value has all standings, and none of them lets the first process throw back the second one."""
    atlas = atlas_of(program)
    if atlas is None or _number_with(program, atlas, failed, process) is not None:
        return False
    return repr(value) == repr(_all_standings(program, atlas))
