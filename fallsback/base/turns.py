"""Turns: what the steps of a program do, in numbers.

Processes and letters in lanes have codes: the processes, ascending, those from 0 on, and the letters of each kind,
ascending, the next ones from 4 on, two for each kind, one for each position.

A *pose* is an integer that tells what a moment has beside its rows: three bits for the state of each process, then two
bits for the number of letters in each lane, then a bit for each process that is clean.
"""

LETTERS_AT = 4
LANES_AT = 12
CLEAN_AT = 20
CODES = 12


class Turn:
    """What a step does.

    `process` is the code of the process that does it, and `move` its move; both are None for a vanishing. `act` is
    "send", "take", "vanish", or None where no letter is concerned. `letter` is the code of the letter that goes, or of
    the first one in the lane for a send; `kind` and `position` tell the same letter, and `sure` whether it can vanish.
    The step is possible with `least` to `most` letters at `lane` in the pose; `change` is what it adds to the pose.
    """

    def __init__(self, step, process, move, lane, change):
        self.step = step
        self.process = process
        self.move = move
        self.act, self.kind, self.position, self.sure, self.least, self.most = lane
        self.lane = LANES_AT + 2 * self.kind
        self.letter = LETTERS_AT + 2 * self.kind + self.position
        self.change = change
        self.price = 0 if move is None else move[3]
        self.keeping = None if move is None else move[4]
        self.clean = CLEAN_AT + (0 if process is None else process)


# Any number of letters in any lane lets a step happen that concerns none.
_NO_LANE = (None, 0, 0, False, 0, 3)


def turns_of(machines, kinds):
    """For each name, ascending, where the pose has its state, in how many bits, and the turns in each state.

    A kind has one state, with a vanishing for each position of its lane if it is not sure.
    """
    codes = {name: code for code, name in enumerate(machines)}
    rooms = {kind: (number, room, sure) for number, (kind, (_, _, room, sure)) in enumerate(kinds.items())}
    return {name: _machine_turns(name, codes[name], machines[name], rooms) if name in machines
            else _kind_turns(name, rooms[name]) for name in sorted([*machines, *kinds])}


def _machine_turns(name, process, machine, rooms):
    """What the steps of a process do, as above; for each kind `rooms` has its number, its room, and if it is sure."""
    table = [_state_turns(name, process, at, state, rooms) for at, state in enumerate(machine.states)]
    return (3 * process, 7, tuple(table))


def _state_turns(name, process, at, state, rooms):
    """The turns of the moves of a state."""
    return tuple([Turn((name, number), process, move, _lane_of(move, rooms), _change_of(process, at, move, rooms))
                  for number, move in enumerate(state)])


def _lane_of(move, rooms):
    act, kind, _, _, _ = move
    if kind is None:
        return _NO_LANE
    number, room, sure = rooms[kind]
    return (act, number, 0, sure, 0, room - 1) if act == "send" else (act, number, 0, sure, 1, room)


def _change_of(process, at, move, rooms):
    act, kind, target, _, _ = move
    change = (target - at) * (1 << 3 * process)
    if kind is None:
        return change
    number, _, _ = rooms[kind]
    letter = 1 << LANES_AT + 2 * number
    return change + (letter if act == "send" else -letter)


def _kind_turns(name, kind):
    """What the vanishings of the letters of a kind do, as above, by its number, its room, and if it is sure."""
    number, room, sure = kind
    lanes = [("vanish", number, position, sure, position + 1, room) for position in range(0 if sure else room)]
    change = -(1 << LANES_AT + 2 * number)
    return (0, 0, (tuple([Turn((name, lane[2]), None, None, lane, change) for lane in lanes]),))


def labels_of(processes, kinds):
    """For each code the name of its process, or the pair (kind, position) of its letter, None if there is none."""
    names = list(processes) + [None] * (LETTERS_AT - len(processes))
    letters = [(kind, position) for kind in kinds for position in (0, 1)]
    return tuple(names + letters + [None] * (CODES - LETTERS_AT - len(letters)))


def first_pose(processes):
    """The pose at the beginning of these processes: they are clean, and all other numbers are 0."""
    return sum([1 << CLEAN_AT + code for code in range(len(processes))])


def state_in(pose, process):
    """The state of the process with this code."""
    return pose >> 3 * process & 7


def filled_in(pose, kind):
    """The number of letters in the lane of the kind with this number."""
    return pose >> LANES_AT + 2 * kind & 3


def is_clean_in(pose, process):
    """Whether the process with this code is clean."""
    return pose >> CLEAN_AT + process & 1 == 1


def turn_at(turns, pose, step):
    """The turn of a step, or None if the value is none or is not possible at this pose."""
    if not isinstance(step, tuple) or len(step) != 2:
        return None
    name, number = step
    if not isinstance(name, str) or name not in turns:
        return None
    at, bits, table = turns[name]
    found = table[pose >> at & bits]
    # Python itself would take an index below 0, and True for 1.
    if isinstance(number, bool) or not isinstance(number, int) or not 0 <= number < len(found):
        return None
    turn = found[number]
    return turn if turn.least <= pose >> turn.lane & 3 <= turn.most else None


def turns_at(turns, pose):
    """The list of the turns that are possible at this pose, ascending by their steps."""
    return [turn for at, bits, table in list(turns.values()) for turn in table[pose >> at & bits]
            if turn.least <= pose >> turn.lane & 3 <= turn.most]


def is_placed(pose, turn):
    """Whether a place is behind the step."""
    return turn.keeping == "save" or (turn.keeping == "note" and pose >> turn.clean & 1 == 1)


def pose_behind(pose, turn, placed):
    """The pose behind the step."""
    if placed:
        return pose + turn.change | 1 << turn.clean
    if turn.act == "take":
        return pose + turn.change & ~(1 << turn.clean)
    return pose + turn.change
