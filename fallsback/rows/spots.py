"""Spots: standings in numbers, and how a step leads from one to the next.

Processes and letters in lanes have codes: the processes, ascending, those from 0 on, and the letters of each kind,
ascending, the next ones from MAX_PROCESSES on, one for each position. A mask is an integer with the bits of some codes.
A spot is a tuple (states, lanes, clean, rows) like a standing, but its rows have for each code a mask, of the processes
and letters that the row of this holder has, or 0 if there is no such holder.
"""

from fallsback.base.programs import MAX_PROCESSES, MAX_ROOM
from fallsback.run.moments import possible_steps
from fallsback.run.pieces import ends_at_place, is_clean_behind

# MAX_PROCESSES and MAX_ROOM letters of each of MAX_KINDS kinds.
CODES = 12


def bits(mask):
    """The ascending list of the codes in the mask."""
    return [code for code in range(CODES) if mask >> code & 1]


def letter_code(program, kind, position):
    """The code of the letter of this kind at this position of its lane."""
    return MAX_PROCESSES + MAX_ROOM * program.kinds.index(kind) + position


def name_of(program, code):
    """The name of a process, or the pair (kind, position) of a letter."""
    if code < MAX_PROCESSES:
        return program.processes[code]
    kind, position = divmod(code - MAX_PROCESSES, MAX_ROOM)
    return (program.kinds[kind], position)


def names_in(program, mask):
    """The ascending tuples of the processes and of the letters in the mask."""
    processes = [name_of(program, code) for code in bits(mask) if code < MAX_PROCESSES]
    letters = [name_of(program, code) for code in bits(mask) if code >= MAX_PROCESSES]
    return (tuple(processes), tuple(letters))


def first_spot(program):
    """The spot at the beginning."""
    many = len(program)
    rows = [1 << code if code < many else 0 for code in range(CODES)]
    return ((0,) * many, (0,) * len(program.kinds), (True,) * many, tuple(rows))


def states_at(program, spot):
    """The dict from the processes to their states."""
    return dict(zip(program.processes, spot[0]))


def lanes_at(program, spot):
    """The dict from the kinds to the numbers of letters in their lanes."""
    return dict(zip(program.kinds, spot[1]))


def holders_at(spot):
    """The ascending list of the codes of the holders."""
    return [code for code in range(CODES) if spot[3][code]]


def standing_at(program, spot):
    """The standing that the spot tells in numbers."""
    states, lanes, clean, rows = spot
    told = []
    for code in holders_at(spot):
        processes, letters = names_in(program, rows[code])
        told.append((name_of(program, code), processes, letters))
    return (states, lanes, clean, tuple(told))


def steps_from(program, spot):
    """The ascending list of the steps that are possible at the spot."""
    return possible_steps(program, states_at(program, spot), lanes_at(program, spot))


def payment(program, spot, step):
    """The code of the process that does the step, None for a vanishing, and the price of the step."""
    name, number = step
    if name in program.kinds:
        return (None, 0)
    process = program.processes.index(name)
    return (process, program[name][spot[0][process], number][3])


def spot_behind(program, spot, step):
    """The spot behind a possible step, and for each code the mask of the sources of its row.

    The sources are the holders, ahead of the step, of whose rows the row is made; none if it begins there.
    """
    states, lanes, clean, rows = spot
    name, number = step
    cells = tuple([(row, 1 << code if row else 0) for code, row in enumerate(rows)])
    if name in program.kinds:
        cells = _without_letter(cells, letter_code(program, name, number))
        lanes = _with_letters(program, lanes, name, -1)
    else:
        process = program.processes.index(name)
        move = program[name][states[process], number]
        cells = _cells_behind(program, spot, process, move, cells)
        states = _changed(states, process, move[2])
        clean = _changed(clean, process, is_clean_behind(move, clean[process]))
        if move[0] in ("send", "take"):
            lanes = _with_letters(program, lanes, move[1], 1 if move[0] == "send" else -1)
    rows = tuple([row for row, _ in cells])
    return (states, lanes, clean, rows), tuple([sources for _, sources in cells])


def _changed(values, at, value):
    """The tuple of the values with another one at this index."""
    return values[:at] + (value,) + values[at + 1:]


def _with_letters(program, lanes, kind, many):
    """The numbers of letters with so many more ones in the lane of this kind."""
    at = program.kinds.index(kind)
    return _changed(lanes, at, lanes[at] + many)


def _cells_behind(program, spot, process, move, cells):
    """The pairs (row, sources) behind this move of the process."""
    act, kind, _, _, _ = move
    if act == "send":
        letter = letter_code(program, kind, lanes_at(program, spot)[kind])
        cells = _with_letter(cells, process, letter, program[kind][3])
    elif act == "take":
        letter = letter_code(program, kind, 0)
        cells = _without_letter(_joined_cells(cells, process, letter), letter)
    if ends_at_place(move, spot[2][process]):
        cells = _changed(cells, process, (1 << process, 0))
    return cells


def _with_letter(cells, process, letter, sure):
    """The cells when the process has sent this letter."""
    sent = [(row | (1 << letter) if row >> process & 1 else row, sources) for row, sources in cells]
    if sure:
        sent[letter] = (sent[process][0], 1 << process)
    return tuple(sent)


def _joined_cells(cells, process, letter):
    """The cells when the process has taken this letter, which is still there."""
    own_row, letter_row = cells[process][0], cells[letter][0]
    found = []
    for row, sources in cells:
        has_letter = row >> letter & 1
        # A letter that is not sure is no holder and has no row to join.
        has_process = row >> process & 1 and letter_row
        found.append((
            row | (own_row if has_letter else 0) | (letter_row if has_process else 0),
            sources | (1 << process if has_letter else 0) | (1 << letter if has_process else 0),
        ))
    return tuple(found)


def _without_letter(cells, letter):
    """The cells when this letter has gone and the one behind it in its lane, if any, has moved up."""
    last = letter if (letter - MAX_PROCESSES) % MAX_ROOM else letter + 1
    kept = [(_moved_up(row, letter, last), sources) for row, sources in cells]
    kept[letter] = kept[last]
    kept[last] = (0, 0)
    return tuple(kept)


def _moved_up(mask, letter, last):
    """The mask with the bit of the last letter of the lane in the place of this one's."""
    moved = 1 << letter if letter < last and mask >> last & 1 else 0
    return (mask & ~(1 << letter | 1 << last)) | moved
