"""Scenes: the places at which rows begin, and how steps and failures go on with them.

A scene is a tuple (pose, grid, levels) behind a run. `levels` has for each process the tuple of its levels, ascending,
triples (tag, state, mask): one for each of its places at which rows begin. The tag tells the place, the state is that
of the process there, and the mask has the holders whose pieces lead to the piece behind the place. A row begins at the
first place whose mask has its holder. All holders whose rows have the process are in the last one of its masks.
"""

from fallsback.base.turns import CLEAN_AT, CODES, LANES_AT, LETTERS_AT, is_placed, state_in, turn_at
from fallsback.rows.spots import bits, first_spot, mask_behind, row_in, slot_in, spot_behind


def first_scene(program):
    """The scene at the beginning. The place there has the tag 0."""
    pose, grid = first_spot(program)
    return pose, grid, tuple([((0, 0, 1 << code),) for code in range(len(program))])


def scene_behind(scene, turn, tag):
    """The scene behind a possible step. A new place gets this tag."""
    pose, grid, levels = scene
    placed = is_placed(pose, turn)
    later_pose, later_grid = spot_behind(pose, grid, turn)
    if turn.act in (None, "vanish") and not placed:
        return later_pose, later_grid, levels
    found = []
    for process, rows in enumerate(levels):
        later = [(old, state, mask_behind(pose, grid, turn, mask)) for old, state, mask in rows]
        if placed and process == turn.process:
            later.append((tag, state_in(later_pose, process), slot_in(later_grid, process)))
        found.append(_held(later))
    return later_pose, later_grid, tuple(found)


def scene_of(run):
    """The scene behind a run, with the places of the processes as tags."""
    if "scene" not in run.known:
        scene = first_scene(run.program)
        for turn, _, own, _, _, _ in run.beats:
            scene = scene_behind(scene, turn, None if own is None else own + 1)
        run.known["scene"] = scene
    return run.known["scene"]


def _held(levels):
    """The tuple of those of the levels at whose places rows begin."""
    found = []
    last = 0
    for tag, state, mask in levels:
        if mask != last:
            found.append((tag, state, mask))
            last = mask
    return tuple(found)


def begins_of(scene, holder):
    """The dict from the codes of the processes that the row of the holder has to the numbers of their levels at which
    it begins.
    """
    _, _, levels = scene
    found = {}
    for process, rows in enumerate(levels):
        numbers = [number for number, (_, _, mask) in enumerate(rows) if mask >> holder & 1]
        if numbers:
            found[process] = numbers[0]
    return found


def scene_left(scene, failed):
    """The scene of the run that is left if the process with this code fails."""
    pose, grid, levels = scene
    begins = begins_of(scene, failed)
    row = row_in(grid, failed)
    slots = [0 if row >> code & 1 else slot_in(grid, code) & ~row for code in range(CODES)]
    found = []
    for process, rows in enumerate(levels):
        later = [(tag, state, mask & ~row) for tag, state, mask in rows[:begins.get(process, len(rows))]]
        if process in begins:
            tag, state, _ = rows[begins[process]]
            # Behind the place is an empty piece now, to which all pieces lead that lead to the one ahead of it.
            slots[process] = 1 << process | (later[-1][2] if later else 0)
            later.append((tag, state, slots[process]))
            pose = _pose_at(pose, process, state)
        found.append(_held(later))
    for code in bits(row):
        pose -= 1 << LANES_AT + 2 * ((code - LETTERS_AT) // 2) if code >= LETTERS_AT else 0
    return pose, sum([mask << CODES * code for code, mask in enumerate(slots)]), tuple(found)


def _pose_at(pose, process, state):
    """The pose with this process in this state, at a place."""
    return pose & ~(7 << 3 * process) | state << 3 * process | 1 << CLEAN_AT + process


class Walk:
    """Steps and failures that follow a run, one after the other. The places that the run has are its tags."""

    def __init__(self, run):
        self.played = run.program
        self.scene = scene_of(run)

    def follow(self, step):
        """Does the step and tells whether it is one and is possible."""
        turn = turn_at(self.played.turns, self.scene[0], step)
        if turn is not None:
            self.scene = scene_behind(self.scene, turn, None)
        return turn is not None

    def fall(self, failed, process):
        """Lets these processes fail, and tells the place of the run to which this one is thrown back.

        It is None if the process is not thrown back, or to a place that was made since.
        """
        names = self.played.processes
        own = names.index(process)
        place = None
        # Several processes at once leave what they leave one after the other.
        for name in failed:
            code = names.index(name)
            begins = begins_of(self.scene, code)
            if own in begins:
                place, _, _ = self.scene[2][own][begins[own]]
            self.scene = scene_left(self.scene, code)
        return place
