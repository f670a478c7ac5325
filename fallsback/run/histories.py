"""Histories: steps and failures, and the runs that they leave."""

from fallsback.base.programs import check_failed, check_program
from fallsback.base.words import is_below
from fallsback.errors import InvalidNumber, InvalidOperation
from fallsback.run.lines import lost, thrown_back
from fallsback.run.runs import Run, check_run, run_of


def behind_failure(run, *failed):
    """The run that is left if these processes fail."""
    check_run(run)
    check_failed(run.program, failed)
    back = {at: True for at in thrown_back(run, *failed)}
    ends = {gone: (kind, sent) for kind in run.program.kinds for sent, gone in run.letters(kind)}
    left = []
    for at, step in enumerate(run):
        kind, sent = ends.get(at, (None, None))
        if at not in back and sent not in back:
            left.append(step)
        elif kind is not None and sent not in back:
            # A take is thrown back and its letter is not: it must not be handed over twice.
            left.append((kind, 0))
    return Run(run.program, *left)


def is_history(program, value):
    """Whether the value is a history of the program."""
    check_program(program)
    return isinstance(value, tuple) and _lived(program, value) is not None


def _is_failure(program, event):
    """Whether the event is an ascending tuple of one or more processes."""
    if not isinstance(event, tuple) or len(event) == 0:
        return False
    return all([name in program.processes for name in event]) and list(event) == sorted(set(event))


def _lived(program, events):
    """The run that the events leave and the list of the losses of each failure, or None if they are no history."""
    run, falls, steps = Run(program), [], []
    for event in events:
        if not _is_failure(program, event):
            steps.append(event)
            continue
        run, steps = run_of(program, run.steps + tuple(steps)), []
        if run is None:
            return None
        falls.append(lost(run, *event))
        run = behind_failure(run, *event)
    run = run_of(program, run.steps + tuple(steps))
    return None if run is None else (run, falls)


class History:
    """Steps and failures of a program, each possible in the run that is left ahead of it."""

    def __init__(self, program, *events):
        check_program(program)
        lived = _lived(program, events)
        if lived is None:
            raise InvalidOperation("these events are no history of the program")
        self._program = program
        self._events = events
        self._run, self._falls = lived

    @classmethod
    def of(cls, program, events):
        """The history with this tuple of events."""
        check_program(program)
        if not isinstance(events, tuple):
            raise InvalidOperation("the events are a tuple")
        return cls(program, *events)

    @property
    def program(self):
        """The program that runs."""
        return self._program

    @property
    def events(self):
        """The tuple of the events."""
        return self._events

    @property
    def run(self):
        """The run that is left."""
        return self._run

    @property
    def falls(self):
        """The tuple of the dicts from all processes to their losses, one for each failure."""
        return tuple([dict(fall) for fall in self._falls])

    @property
    def losses(self):
        """The dict from all processes to the sums of their losses."""
        return {name: sum([fall[name] for fall in self._falls]) for name in self._program.processes}

    def longer(self, *events):
        """The history with these events behind."""
        return History(self._program, *self._events, *events)

    def first(self, many):
        """The history with its first events only."""
        if not is_below(many, len(self._events) + 1):
            raise InvalidNumber(many)
        return History.of(self._program, self._events[:many])

    def __iter__(self):
        return iter(self._events)

    def __len__(self):
        return len(self._events)

    def __eq__(self, other):
        return isinstance(other, History) and self._program == other._program and self._events == other._events

    def __str__(self):
        return f"history of {len(self._events)} events, {len(self._falls)} failures"
