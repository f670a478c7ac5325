"""Spots: standings in numbers, and how a step leads from one to the next.

A spot is a pair (pose, grid); poses and codes are those of `base.turns`. A *grid* is an integer with a *slot* of twelve
bits for each code: the mask of the holders whose rows have this process or letter. A mask has a bit for each code.
"""

from fallsback.base.turns import (
    CODES, LETTERS_AT, filled_in, first_pose, is_clean_in, is_placed, pose_behind, state_in,
)

SLOT = 4095
# The lowest bit of each slot: times a mask, it puts the mask into each slot.
EACH = 0x001001001001001001001001001001001001


def bits(mask):
    """The ascending list of the codes in the mask."""
    codes = []
    while mask:
        codes.append((mask & -mask).bit_length() - 1)
        mask = mask & mask - 1
    return codes


def slot_in(grid, code):
    """The mask of the holders whose rows have this process or letter."""
    return grid >> CODES * code & SLOT


def row_in(grid, holder):
    """The mask of the processes and letters that the row of this holder has."""
    return sum([1 << code for code in range(CODES) if grid >> CODES * code + holder & 1])


def first_spot(program):
    """The spot at the beginning."""
    grid = sum([1 << (CODES + 1) * code for code in range(len(program))])
    return first_pose(program.processes), grid


def spot_behind(pose, grid, turn):
    """The spot behind a possible step."""
    placed = is_placed(pose, turn)
    return pose_behind(pose, turn, placed), grid_behind(pose, grid, turn, placed)


def grid_behind(pose, grid, turn, placed):
    """The grid behind a possible step."""
    process, letter = turn.process, turn.letter
    if turn.act == "send":
        letter += pose >> turn.lane & 3
        grid |= (grid >> CODES * process & SLOT) << CODES * letter
        if turn.sure:
            grid |= (grid >> process & EACH) << letter
    elif turn.act is not None:
        if turn.act == "take":
            with_letter, with_process = slot_in(grid, letter), slot_in(grid, process)
            # A letter that is not sure is no holder, so it has no bit in any slot.
            grid |= (grid >> process & EACH) * with_letter | (grid >> letter & EACH) * with_process
        grid = _without_letter(grid, letter, last_letter(pose, turn))
    if placed:
        grid = grid & ~(EACH << process) | 1 << (CODES + 1) * process
    return grid


def last_letter(pose, turn):
    """The code of the last letter in the lane from which this step takes one away."""
    return turn.letter - turn.position + (pose >> turn.lane & 3) - 1


def _without_letter(grid, letter, last):
    """The grid when this letter has gone and the last one of the lane has moved up to its position."""
    if letter < last:
        grid = grid & ~(SLOT << CODES * letter) | (grid >> CODES * last & SLOT) << CODES * letter
        grid = grid & ~(EACH << letter) | (grid >> last & EACH) << letter
    return grid & ~(SLOT << CODES * last | EACH << last)


def moved_up(mask, letter, last):
    """The mask when this letter has gone and the last one of the lane has moved up to its position."""
    if letter < last:
        mask = mask & ~(1 << letter) | (mask >> last & 1) << letter
    return mask & ~(1 << last)


def mask_behind(pose, grid, turn, mask):
    """The mask of the holders behind a step that lead where those of the mask lead ahead of it."""
    process, letter = turn.process, turn.letter
    if turn.act == "send":
        if turn.sure and mask >> process & 1:
            mask |= 1 << letter + (pose >> turn.lane & 3)
    elif turn.act == "take":
        old = mask
        if old >> process & 1:
            mask |= slot_in(grid, letter)
        if old >> letter & 1:
            mask |= slot_in(grid, process)
        mask = moved_up(mask, letter, last_letter(pose, turn))
    if is_placed(pose, turn):
        mask &= ~(1 << process)
    return mask


def holders_at(program, pose):
    """The ascending list of the codes of the holders."""
    letters = [LETTERS_AT + 2 * number + position for number, kind in enumerate(program.kinds) if program[kind][3]
               for position in range(filled_in(pose, number))]
    return list(range(len(program))) + letters


def names_in(program, mask):
    """The ascending tuples of the processes and of the letters in the mask."""
    codes = bits(mask)
    return (tuple([program.labels[code] for code in codes if code < LETTERS_AT]),
            tuple([program.labels[code] for code in codes if code >= LETTERS_AT]))


def states_at(program, pose):
    """The dict from the processes to their states."""
    return {name: state_in(pose, code) for code, name in enumerate(program.processes)}


def lanes_at(program, pose):
    """The dict from the kinds to the numbers of letters in their lanes."""
    return {kind: filled_in(pose, number) for number, kind in enumerate(program.kinds)}


def standing_at(program, pose, grid):
    """The standing that the spot tells in numbers."""
    told = []
    for code in holders_at(program, pose):
        processes, letters = names_in(program, row_in(grid, code))
        told.append((program.labels[code], processes, letters))
    states = tuple(list(states_at(program, pose).values()))
    lanes = tuple(list(lanes_at(program, pose).values()))
    clean = tuple([is_clean_in(pose, code) for code in range(len(program))])
    return (states, lanes, clean, tuple(told))
