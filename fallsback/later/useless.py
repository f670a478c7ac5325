"""Useless places: those that no sound line has."""

from fallsback.base.programs import check_process, check_program
from fallsback.base.words import is_integer
from fallsback.errors import InvalidNumber, InvalidOperation
from fallsback.later.loops import closing_steps
from fallsback.rows.graphs import groups_of, numbers_in
from fallsback.rows.standings import full_atlas
from fallsback.run.pieces import arrow_table, places_of
from fallsback.run.runs import check_run, run_of


def is_useless(run, process, place):
    """Whether no sound line has this place of the process."""
    return lead(run, process, place) is not None


def useless_places(run):
    """The dict from all processes to the ascending tuples of their useless places."""
    check_run(run)
    groups = _group_numbers(arrow_table(run))
    found = {}
    for process in run.program.processes:
        begins = places_of(run, process)
        # The piece ahead of a place leads to the piece behind it, so both are in one group if that leads back.
        found[process] = tuple([place for ahead, place in zip(begins, begins[1:])
                                if groups[process, ahead] == groups[process, place]])
    return found


def lead(run, process, place):
    """Any pieces from the one behind the place to the one ahead of it, each with an arrow to the next one, or None."""
    _check_place(run, process, place)
    if place == 0:
        return None
    goal = (process, _place_ahead(places_of(run, process), place))
    return _path(arrow_table(run), (process, place), goal)


def is_lead(run, process, place, value):
    """Whether the value is a tuple of such pieces."""
    _check_place(run, process, place)
    if place == 0 or not isinstance(value, tuple) or len(value) == 0:
        return False
    table = arrow_table(run)
    # Compared by their texts, a piece at True is not one at 1.
    texts = {repr(piece): piece for piece in table}
    pieces = [texts.get(repr(piece)) for piece in value]
    if None in pieces or pieces[0] != (process, place):
        return False
    return (pieces[-1] == (process, _place_ahead(places_of(run, process), place))
            and all([other in table[piece] for piece, other in zip(pieces, pieces[1:])]))


def useless_run(program, process, state, number):
    """The steps of any run behind which some place is useless that this move made, or None if there is none."""
    _check_move(program, process, state, number)
    return closing_steps(full_atlas(program), program.processes.index(process), state, number)


def is_useless_run(program, process, state, number, value):
    """Whether the value is a tuple of the steps of such a run."""
    _check_move(program, process, state, number)
    run = run_of(program, value)
    if run is None:
        return False
    made = _places_made(run, process, state, number)
    useless = useless_places(run)[process]
    return any([place in useless for place in made])


def _check_place(run, process, place):
    check_run(run)
    check_process(run.program, process)
    if not is_integer(place) or place not in places_of(run, process):
        raise InvalidNumber(place)


def _check_move(program, process, state, number):
    """Raises an error unless these tell a move with a keeping."""
    check_program(program)
    check_process(program, process)
    _, _, _, _, keeping = program[process][state, number]
    if keeping is None:
        raise InvalidOperation("the move has no keeping")


def _place_ahead(begins, place):
    """The last place ahead of this one."""
    return begins[begins.index(place) - 1]


def _group_numbers(table):
    """The dict from the pieces to the numbers of their groups, in which all pieces lead to one another."""
    numbers = {piece: number for number, piece in enumerate(table)}
    links = [[(numbers[other], 0, None) for other in table[piece]] for piece in table]
    groups = numbers_in(groups_of(links), len(links))
    return {piece: groups[numbers[piece]] for piece in table}


def _path(table, start, goal):
    """The pieces of a shortest way from the start to the goal, or None if there is none."""
    came = {start: None}
    queue = [start]
    at = 0
    while at < len(queue) and goal not in came:
        here = queue[at]
        for other in table[here]:
            if other not in came:
                came[other] = here
                queue.append(other)
        at += 1
    if goal not in came:
        return None
    pieces = [goal]
    while pieces[-1] != start:
        pieces.append(came[pieces[-1]])
    return tuple(pieces[::-1])


def _places_made(run, process, state, number):
    """The list of the places of the process that its move with this number in this state made."""
    found = []
    here = 0
    for turn, _, own, placed, _, _ in run.beats:
        if turn.step[0] == process:
            if placed and here == state and turn.step[1] == number:
                found.append(own + 1)
            here = turn.move[2]
    return found
