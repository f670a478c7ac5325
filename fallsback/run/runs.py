"""Runs: what the processes of a program do, step by step."""

from fallsback.base.programs import check_kind, check_process, check_program
from fallsback.base.words import is_below
from fallsback.errors import InvalidNumber, InvalidOperation, InvalidRun
from fallsback.run.moments import is_possible, possible_steps

_MOST_LISTED = 12


def check_run(value):
    """Raises InvalidRun(0) unless the value is a run."""
    if not isinstance(value, Run):
        raise InvalidRun(0)


def run_of(program, steps):
    """The run with these steps, or None if there is none."""
    try:
        return Run.of(program, steps)
    except InvalidRun:
        return None


def _filled(lanes):
    """The numbers of letters in the lanes."""
    return {kind: len(lane) for kind, lane in lanes.items()}


def _many_letters(lanes):
    """The number of all letters in lanes."""
    return sum([len(lane) for lane in lanes.values()])


def _without(lane, position):
    """The letter at this position, and the lane without it."""
    return lane[position], lane[:position] + lane[position + 1:]


def _played(program, steps):
    """What the steps come to: states, lanes, and for each step its move and the send of the letter that it ends.

    The move of a vanishing is None, and so is the send where no letter is taken or vanishes.
    """
    states = dict([(name, 0) for name in program.processes])
    lanes = dict([(kind, ()) for kind in program.kinds])
    moves = []
    sends = []
    for at, step in enumerate(steps):
        if not is_possible(program, states, _filled(lanes), step):
            raise InvalidRun(at)
        name, number = step
        move, sent = None, None
        if name in lanes:
            sent, lanes[name] = _without(lanes[name], number)
        else:
            move = program[name][states[name], number]
            act, kind, target, _, _ = move
            states[name] = target
            if act == "send":
                lanes[kind] = lanes[kind] + (at,)
            elif act == "take":
                sent, lanes[kind] = _without(lanes[kind], 0)
        moves.append(move)
        sends.append(sent)
    return states, lanes, moves, sends


class Run:
    """Steps of a program, each of which is possible behind the earlier ones."""

    def __init__(self, program, *steps):
        check_program(program)
        self._program = program
        self._steps = steps
        self._states, self._lanes, self._moves, self._sends = _played(program, steps)

    @classmethod
    def of(cls, program, steps):
        """The run with this tuple of steps."""
        check_program(program)
        if not isinstance(steps, tuple):
            raise InvalidRun(0)
        return cls(program, *steps)

    @property
    def program(self):
        """The program that runs."""
        return self._program

    @property
    def steps(self):
        """The tuple of the steps."""
        return self._steps

    @property
    def states(self):
        """The dict from the processes to their states behind the run."""
        return dict(self._states)

    @property
    def lanes(self):
        """The dict from the kinds to the indices of the steps that sent the letters in their lanes."""
        return dict(self._lanes)

    @property
    def possible(self):
        """The ascending tuple of the steps that can come next."""
        return tuple(possible_steps(self._program, self._states, _filled(self._lanes)))

    def own(self, process):
        """The ascending tuple of the indices of the steps of this process."""
        check_process(self._program, process)
        return tuple([at for at, (name, _) in enumerate(self._steps) if name == process])

    def letters(self, kind):
        """The pairs (sent, gone) of the steps that sent each letter and took it or let it vanish, or None."""
        check_kind(self._program, kind)
        gone = {sent: at for at, sent in enumerate(self._sends) if sent is not None}
        return tuple([(at, gone.get(at)) for at, move in enumerate(self._moves)
                      if move is not None and move[:2] == ("send", kind)])

    def moves_of(self, process):
        """The tuple of the moves of the steps of this process."""
        return tuple([self._moves[at] for at in self.own(process)])

    def longer(self, *steps):
        """The run with these steps behind."""
        return Run(self._program, *self._steps, *steps)

    def first(self, many):
        """The run with its first steps only."""
        if not is_below(many, len(self._steps) + 1):
            raise InvalidNumber(many)
        return Run.of(self._program, self._steps[:many])

    def __add__(self, other):
        if not isinstance(other, Run) or self._program != other._program:
            raise InvalidOperation("only runs of one program can follow one another")
        return Run(self._program, *self._steps, *other._steps)

    def __getitem__(self, index):
        if not is_below(index, len(self._steps)):
            raise InvalidNumber(index)
        return self._steps[index]

    def __iter__(self):
        return iter(self._steps)

    def __len__(self):
        return len(self._steps)

    def __eq__(self, other):
        return isinstance(other, Run) and self._program == other._program and self._steps == other._steps

    def __str__(self):
        return f"run of {len(self._steps)} steps, {_many_letters(self._lanes)} letters under way"


def each_run(program, many):
    """All runs with just so many steps, ascending by their steps."""
    check_program(program)
    if not is_below(many, _MOST_LISTED + 1):
        raise InvalidNumber(many)
    ahead = [Run(program)]
    while ahead:
        run = ahead.pop()
        if len(run) == many:
            yield run
        else:
            ahead.extend([run.longer(step) for step in run.possible[::-1]])
