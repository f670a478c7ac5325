"""Loops: runs in which the piece behind a place comes to lead to the piece ahead of it.

Behind the place that a move makes, the search follows two codes at once: the one of a process or letter to whose piece
the piece behind the place leads, and the one of a holder whose piece leads to the piece ahead of the place. A take that
draws an arrow from the first one's piece to the second one's closes the loop. Whatever comes to be one of both comes
from one that was, so it is enough to follow one of each.
"""

from fallsback.base.turns import is_placed, state_in
from fallsback.rows.spots import bits, last_letter, mask_behind, moved_up, row_in, slot_in


def closing_steps(atlas, process, state, number):
    """The steps of a run that closes a loop at a place that this move of the process made, or None if none does."""
    came = _begins(atlas, process, state, number)
    queue = list(came)
    at = 0
    while at < len(queue):
        node = queue[at]
        here, ahead, source = node
        pose, grid = atlas.spots[here]
        for turn, later in atlas.ways[here]:
            if _closes(turn, ahead, source):
                return _steps_to(atlas, came, node) + (turn.step,)
            holders = bits(mask_behind(pose, grid, turn, 1 << source))
            for code in bits(_led_behind(pose, grid, turn, ahead)):
                for holder in holders:
                    if (later, code, holder) not in came:
                        came[later, code, holder] = (node, turn)
                        queue.append((later, code, holder))
        at += 1
    return None


def _begins(atlas, process, state, number):
    """The dict from the nodes (standing, code, holder) at which the search begins to pairs (standing ahead, turn)."""
    found = {}
    for here, ways in enumerate(atlas.ways):
        pose, _ = atlas.spots[here]
        for turn, later in ways:
            if (turn.process == process and turn.step[1] == number and state_in(pose, process) == state
                    and is_placed(pose, turn)):
                _, grid = atlas.spots[later]
                # All others that lead to the process now lead to it from the piece ahead of the place.
                for holder in bits(slot_in(grid, process) & ~(1 << process)):
                    found[later, process, holder] = (here, turn)
    return found


def _closes(turn, ahead, source):
    """Whether the step draws an arrow from the one to the other."""
    if turn.act != "take":
        return False
    return (ahead, source) in ((turn.letter, turn.process), (turn.process, turn.letter))


def _led_behind(pose, grid, turn, code):
    """The mask of the codes to which a piece leads behind the step that leads to this one ahead of it."""
    mask = 1 << code
    if turn.act == "send" and code == turn.process:
        return mask | 1 << turn.letter + (pose >> turn.lane & 3)
    if turn.act == "take" and code == turn.letter:
        mask |= row_in(grid, turn.process)
    elif turn.act == "take" and code == turn.process:
        mask |= row_in(grid, turn.letter)
    if turn.act in ("take", "vanish"):
        return moved_up(mask, turn.letter, last_letter(pose, turn))
    return mask


def _steps_to(atlas, came, node):
    """The steps of a run to this node."""
    steps = []
    while isinstance(node, tuple):
        node, turn = came[node]
        steps.append(turn.step)
    return atlas.steps_to(node) + tuple(steps[::-1])
