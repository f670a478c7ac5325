"""Histories: steps and failures, and the runs that they leave."""

from fallsback.base.programs import check_failed, check_program
from fallsback.base.words import is_below
from fallsback.errors import InvalidNumber, InvalidOperation, InvalidRun
from fallsback.run.pieces import fall_of
from fallsback.run.runs import Run, check_run


def behind_failure(run, *failed):
    """The run that is left if these processes fail."""
    check_run(run)
    check_failed(run.program, failed)
    _, back, _ = fall_of(run, failed)
    return run_left(run, back)


def run_left(run, thrown):
    """The run that is left if the steps with these indices, a list, are thrown back."""
    back = {at: True for at in thrown}
    # All steps ahead of the first one that is thrown back stay as they are.
    first = min(thrown, default=len(run))
    left = []
    for at, (turn, sent, _, _, _, _) in enumerate(run.beats[first:], start=first):
        if at not in back and sent not in back:
            left.append(turn.step)
        elif turn.act == "take" and sent not in back:
            # A take is thrown back and its letter is not: it must not be handed over twice.
            left.append((turn.move[1], 0))
    return run.first(first).longer(*left)


def is_history(program, value):
    """Whether the value is a history of the program."""
    check_program(program)
    return isinstance(value, tuple) and _lived(Run(program), value) is not None


def is_failure(program, event):
    """Whether the event is an ascending tuple of one or more processes."""
    if not isinstance(event, tuple) or len(event) == 0:
        return False
    return all([name in program.processes for name in event]) and list(event) == sorted(set(event))


def _lived(run, events):
    """The run that is left by events that follow this one, and for each failure the triple (number of the event, run
    that it leaves, dict of the losses); None if the events do not follow the run.
    """
    falls = []
    steps = []
    for at, event in enumerate(events):
        if not is_failure(run.program, event):
            steps.append(event)
            continue
        run = _gone_on(run, steps)
        if run is None:
            return None
        steps = []
        _, back, fall = fall_of(run, event)
        run = run_left(run, back)
        falls.append((at, run, fall))
    run = _gone_on(run, steps)
    return None if run is None else (run, falls)


def _gone_on(run, steps):
    """The run with these steps behind, or None if there is none."""
    try:
        return run.longer(*steps)
    except InvalidRun:
        return None


def _checked(run, events):
    """The run and the failures as above."""
    lived = _lived(run, events)
    if lived is None:
        raise InvalidOperation("these events are no history of the program")
    return lived


class History:
    """Steps and failures of a program, each possible in the run that is left ahead of it."""

    def __init__(self, program, *events):
        check_program(program)
        self._program = program
        self._events = events
        self._run, self._falls = _checked(Run(program), events)

    @classmethod
    def of(cls, program, events):
        """The history with this tuple of events."""
        check_program(program)
        if not isinstance(events, tuple):
            raise InvalidOperation("the events are a tuple")
        return cls(program, *events)

    @property
    def program(self):
        """The program that runs."""
        return self._program

    @property
    def events(self):
        """The tuple of the events."""
        return self._events

    @property
    def run(self):
        """The run that is left."""
        return self._run

    @property
    def falls(self):
        """The tuple of the dicts from all processes to their losses, one for each failure."""
        return tuple([dict(fall) for _, _, fall in self._falls])

    @property
    def losses(self):
        """The dict from all processes to the sums of their losses."""
        return {name: sum([fall[name] for _, _, fall in self._falls]) for name in self._program.processes}

    def longer(self, *events):
        """The history with these events behind."""
        run, falls = _checked(self._run, events)
        later = History(self._program)
        later._events = self._events + events
        later._run = run
        later._falls = self._falls + [(at + len(self._events), left, fall) for at, left, fall in falls]
        return later

    def first(self, many):
        """The history with its first events only."""
        if not is_below(many, len(self._events) + 1):
            raise InvalidNumber(many)
        earlier = History(self._program)
        earlier._events = self._events[:many]
        earlier._falls = [fall for fall in self._falls if fall[0] < many]
        # Behind the last failure there are only steps.
        at, left, _ = earlier._falls[-1] if earlier._falls else (-1, Run(self._program), None)
        steps = self._events[at + 1:many]
        earlier._run = left.longer(*steps)
        return earlier

    def __iter__(self):
        return iter(self._events)

    def __len__(self):
        return len(self._events)

    def __eq__(self, other):
        return isinstance(other, History) and self._program == other._program and self._events == other._events

    def __str__(self):
        return f"history of {len(self._events)} events, {len(self._falls)} failures"
