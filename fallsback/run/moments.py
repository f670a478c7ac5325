"""What can come next at a moment: at states of the processes and numbers of letters in the lanes."""

from fallsback.base.words import is_below


def is_possible(program, states, filled, value):
    """Whether the value is a step that can come next, with so many letters in each lane."""
    if not isinstance(value, tuple) or len(value) != 2:
        return False
    name, number = value
    if not isinstance(name, str):
        return False
    if name in filled:
        return not program[name][3] and is_below(number, filled[name])
    if name not in states:
        return False
    moves = program[name][states[name]]
    return is_below(number, len(moves)) and _lets(program, filled, moves[number])


def _lets(program, filled, move):
    """Whether the lanes let this move happen."""
    act, kind, _, _, _ = move
    if act == "send":
        return filled[kind] < program[kind][2]
    return act != "take" or filled[kind] > 0


def possible_steps(program, states, filled):
    """The ascending list of the steps that can come next."""
    steps = []
    for name in sorted([*states, *filled]):
        many = filled[name] if name in filled else len(program[name][states[name]])
        steps = steps + [(name, number) for number in range(many)]
    return [step for step in steps if is_possible(program, states, filled, step)]
