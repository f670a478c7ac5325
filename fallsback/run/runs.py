"""Runs: what the processes of a program do, step by step."""

from fallsback.base.programs import check_kind, check_process, check_program
from fallsback.base.turns import first_pose, is_placed, pose_behind, state_in, turn_at, turns_at
from fallsback.base.words import is_below
from fallsback.errors import InvalidNumber, InvalidOperation, InvalidRun

_MOST_LISTED = 12


def check_run(value):
    """Raises InvalidRun(0) unless the value is a run."""
    if not isinstance(value, Run):
        raise InvalidRun(0)


def run_of(program, steps):
    """The run with these steps, or None if there is none."""
    try:
        return Run.of(program, steps)
    except InvalidRun:
        return None


def pose_of(run):
    """The pose behind the run."""
    pose, _ = _end_of(run.program, run.beats)
    return pose


def _end_of(program, beats):
    """The pose behind the beats, and for each kind the indices of the steps that sent the letters in its lane."""
    if beats:
        return beats[-1][4], beats[-1][5]
    return first_pose(program.processes), ((),) * len(program.kinds)


def _played(program, beats, counts, steps):
    """The list of the beats of these steps behind the earlier ones, and the numbers of the steps of each process."""
    pose, lanes = _end_of(program, beats)
    numbers = list(counts)
    found = []
    for at, step in enumerate(steps, start=len(beats)):
        turn = turn_at(program.turns, pose, step)
        if turn is None:
            raise InvalidRun(at)
        placed = is_placed(pose, turn)
        sent, own = None, None
        if turn.act is not None:
            sent, lanes = _handed_on(lanes, turn, at)
        if turn.process is not None:
            own = numbers[turn.process]
            numbers[turn.process] = own + 1
        pose = pose_behind(pose, turn, placed)
        found.append((turn, sent, own, placed, pose, lanes))
    return found, numbers


def _handed_on(lanes, turn, at):
    """The step that sent the letter that this step takes or lets vanish, or None, and the lanes behind this step."""
    number, position = turn.kind, turn.position
    lane = lanes[number]
    if turn.act == "send":
        return None, lanes[:number] + (lane + (at,),) + lanes[number + 1:]
    return lane[position], lanes[:number] + (lane[:position] + lane[position + 1:],) + lanes[number + 1:]


def _many_letters(program, beats):
    """The number of all letters in lanes behind the beats."""
    _, lanes = _end_of(program, beats)
    return sum([len(lane) for lane in lanes])


class Run:
    """Steps of a program, each of which is possible behind the earlier ones.

    `beats` has for each step a tuple (turn, sent, own, placed, pose, lanes): what it does; the step that sent the
    letter that it takes or lets vanish; how many steps its process has made ahead of it; whether a place is behind it;
    the pose and the lanes behind it. What does not apply is None. `counts` has the number of steps of each process.
    """

    def __init__(self, program, *steps):
        check_program(program)
        self._program = program
        self._steps = steps
        beats, self.counts = _played(program, (), [0] * len(program), steps)
        self.beats = tuple(beats)
        # What has been found out about the run, by names. No answer depends on what is known already.
        self.known = {}

    @classmethod
    def of(cls, program, steps):
        """The run with this tuple of steps."""
        check_program(program)
        if not isinstance(steps, tuple):
            raise InvalidRun(0)
        return cls(program, *steps)

    @property
    def program(self):
        """The program that runs."""
        return self._program

    @property
    def steps(self):
        """The tuple of the steps."""
        return self._steps

    @property
    def states(self):
        """The dict from the processes to their states behind the run."""
        pose, _ = _end_of(self._program, self.beats)
        return {name: state_in(pose, code) for code, name in enumerate(self._program.processes)}

    @property
    def lanes(self):
        """The dict from the kinds to the indices of the steps that sent the letters in their lanes."""
        _, lanes = _end_of(self._program, self.beats)
        return dict(zip(self._program.kinds, lanes))

    @property
    def possible(self):
        """The ascending tuple of the steps that can come next."""
        pose, _ = _end_of(self._program, self.beats)
        return tuple([turn.step for turn in turns_at(self._program.turns, pose)])

    def own(self, process):
        """The ascending tuple of the indices of the steps of this process."""
        check_process(self._program, process)
        return tuple([at for at, (name, _) in enumerate(self._steps) if name == process])

    def letters(self, kind):
        """The pairs (sent, gone) of the steps that sent each letter and took it or let it vanish, or None."""
        check_kind(self._program, kind)
        gone = {beat[1]: at for at, beat in enumerate(self.beats) if beat[1] is not None}
        return tuple([(at, gone.get(at)) for at, (turn, _, _, _, _, _) in enumerate(self.beats)
                      if turn.act == "send" and turn.move[1] == kind])

    def moves_of(self, process):
        """The tuple of the moves of the steps of this process."""
        return tuple([self.beats[at][0].move for at in self.own(process)])

    def longer(self, *steps):
        """The run with these steps behind."""
        beats, counts = _played(self._program, self.beats, self.counts, steps)
        later = Run(self._program)
        later._steps, later.counts = self._steps + steps, counts
        later.beats = self.beats + tuple(beats)
        return later

    def first(self, many):
        """The run with its first steps only."""
        if not is_below(many, len(self._steps) + 1):
            raise InvalidNumber(many)
        counts = list(self.counts)
        for turn, _, _, _, _, _ in self.beats[many:]:
            if turn.process is not None:
                counts[turn.process] -= 1
        earlier = Run(self._program)
        earlier._steps, earlier.counts = self._steps[:many], counts
        earlier.beats = self.beats[:many]
        return earlier

    def __add__(self, other):
        if not isinstance(other, Run) or self._program != other._program:
            raise InvalidOperation("only runs of one program can follow one another")
        return Run(self._program, *self._steps, *other._steps)

    def __getitem__(self, index):
        if not is_below(index, len(self._steps)):
            raise InvalidNumber(index)
        return self._steps[index]

    def __iter__(self):
        return iter(self._steps)

    def __len__(self):
        return len(self._steps)

    def __eq__(self, other):
        return isinstance(other, Run) and self._program == other._program and self._steps == other._steps

    def __str__(self):
        return f"run of {len(self._steps)} steps, {_many_letters(self._program, self.beats)} letters under way"


def each_run(program, many):
    """All runs with just so many steps, ascending by their steps."""
    check_program(program)
    if not is_below(many, _MOST_LISTED + 1):
        raise InvalidNumber(many)
    ahead = [Run(program)]
    while ahead:
        run = ahead.pop()
        if len(run) == many:
            yield run
        else:
            ahead.extend([run.longer(step) for step in run.possible[::-1]])
