"""Programs: processes with their machines, and the kinds of letters between them."""

from fallsback.base.machines import Machine, can_have_keeping, is_price
from fallsback.base.turns import labels_of, turns_of
from fallsback.base.words import is_below, is_integer, is_word
from fallsback.errors import InvalidOperation, InvalidProgram, InvalidWord, UnknownName

MIN_PROCESSES = 2
MAX_PROCESSES = 4
MAX_KINDS = 4
MAX_ROOM = 2


def is_kind(value):
    """Whether the value has the form of a kind: (sender, receiver, room, sure)."""
    if not isinstance(value, tuple) or len(value) != 4:
        return False
    sender, receiver, room, sure = value
    return (is_word(sender) and is_word(receiver) and sender != receiver
            and is_integer(room) and 1 <= room <= MAX_ROOM and isinstance(sure, bool))


def check_program(value):
    """Raises InvalidProgram unless the value is a program."""
    if not isinstance(value, Program):
        raise InvalidProgram("this is no program")


def check_process(program, value):
    """Raises UnknownName unless the value is the name of a process."""
    _check_name(value, program.processes)


def check_kind(program, value):
    """Raises UnknownName unless the value is the name of a kind."""
    _check_name(value, program.kinds)


def check_apart(program, names):
    """Raises an error unless the values are names of processes, none of them twice."""
    for name in names:
        check_process(program, name)
    if len(set(names)) != len(names):
        raise InvalidOperation("a process is named twice")


def check_failed(program, failed):
    """Raises an error unless the values are names of processes that can fail at once."""
    check_apart(program, failed)
    if len(failed) == 0:
        raise InvalidOperation("no process fails")


def _check_name(value, names):
    if value not in names:
        raise UnknownName(value)


def _check_words(value):
    if isinstance(value, dict) and not all([is_word(name) for name in value]):
        raise InvalidWord("names are words")


def _are_parts(machines, kinds):
    """Whether both values are those of which a program is made."""
    if not isinstance(machines, dict) or not isinstance(kinds, dict):
        return False
    if not MIN_PROCESSES <= len(machines) <= MAX_PROCESSES or len(kinds) > MAX_KINDS:
        return False
    if any([name in machines for name in kinds]):
        return False
    return (all([_is_between(kinds[name], machines) for name in kinds])
            and all([_is_machine_of(name, machines[name], kinds) for name in machines]))


def _is_between(value, machines):
    """Whether the value is a kind of letters between processes that are there."""
    return is_kind(value) and value[0] in machines and value[1] in machines


def _is_machine_of(name, value, kinds):
    """Whether the value is a machine that sends and takes only the letters of its process."""
    if not isinstance(value, Machine):
        return False
    return (all([kind in kinds and kinds[kind][0] == name for kind in value.sends])
            and all([kind in kinds and kinds[kind][1] == name for kind in value.takes]))


def is_mark(program, value):
    """Whether the value is a mark for a move of the program that can have this keeping."""
    if not isinstance(value, tuple) or len(value) != 4:
        return False
    process, state, number, keeping = value
    if process not in program.processes:
        return False
    states = program[process].states
    if not is_below(state, len(states)) or not is_below(number, len(states[state])):
        return False
    return can_have_keeping(states[state][number][0], keeping)


def _has_keepings(machines):
    return any([len(machines[name].kept) > 0 for name in machines])


def _without_keepings(machine):
    """The machine in which no move has a keeping."""
    states = [tuple([move[:4] + (None,) for move in state]) for state in machine.states]
    return Machine(*states)


def _with_kinds_renamed(machine, renamed):
    """The machine that sends and takes the kinds under their new names."""
    states = [tuple([_move_renamed(move, renamed) for move in state]) for state in machine.states]
    return Machine(*states)


def _move_renamed(move, renamed):
    act, kind, target, price, keeping = move
    if kind is None:
        return move
    return (act, renamed[kind], target, price, keeping)


class Program:
    """Two to four processes with their machines, and at most four kinds of letters."""

    def __init__(self, machines, kinds):
        _check_words(machines)
        _check_words(kinds)
        if not _are_parts(machines, kinds):
            raise InvalidProgram("there is no program of these machines and kinds")
        self._machines = {name: machines[name] for name in sorted(machines)}
        self._kinds = {name: kinds[name] for name in sorted(kinds)}
        self._talk = None
        if _has_keepings(machines):
            self._talk = Program({name: _without_keepings(machines[name]) for name in machines}, kinds)
        # What each step does, and what each code means: read by all that plays the program.
        self.turns = turns_of(self._machines, self._kinds)
        self.labels = labels_of(list(self._machines), list(self._kinds))
        # What has been found out about the program, by names. No answer depends on what is known already.
        self.known = {}

    @property
    def processes(self):
        """The ascending tuple of the names of the processes."""
        return tuple(self._machines)

    @property
    def kinds(self):
        """The ascending tuple of the names of the kinds."""
        return tuple(self._kinds)

    @property
    def talk(self):
        """The program in which no move has a keeping."""
        return self if self._talk is None else self._talk

    @property
    def marks(self):
        """The ascending tuple of (process, state, number, keeping) of all moves with a keeping."""
        return tuple([(name, state, number, machine[state, number][4])
                      for name, machine in self._machines.items() for state, number in machine.kept])

    def with_machine(self, name, machine):
        """The program with another machine of this process."""
        check_process(self, name)
        machines = dict(self._machines)
        machines[name] = machine
        return Program(machines, self._kinds)

    def with_kind(self, name, kind):
        """The program with another tuple of this kind."""
        check_kind(self, name)
        kinds = dict(self._kinds)
        kinds[name] = kind
        return Program(self._machines, kinds)

    def priced(self, price, *names):
        """The program in which all moves of these processes, or of all, have this price."""
        for name in names:
            check_process(self, name)
        # Where there are no moves, no machine would show that the price is wrong.
        if not is_price(price):
            raise InvalidProgram("a price is an integer from 0 to 9")
        machines = dict(self._machines)
        for name in names or self.processes:
            machines[name] = machines[name].priced(price)
        return Program(machines, self._kinds)

    def with_keeping(self, *marks):
        """The program with the keepings of these marks, (process, state, number, keeping)."""
        machines = dict(self._machines)
        marked = {}
        for mark in marks:
            if not is_mark(self, mark) or mark[:3] in marked:
                raise InvalidOperation("a mark tells a keeping of a move, one for each move")
            process, state, number, keeping = mark
            marked[mark[:3]] = True
            machines[process] = machines[process].with_keeping(state, number, keeping)
        return Program(machines, self._kinds)

    def renamed(self, names):
        """The program with other names, by a dict from some of its names to words."""
        if not isinstance(names, dict) or not all([old in self and is_word(names[old]) for old in names]):
            raise InvalidOperation("new names are told by a dict from names to words")
        renamed = {old: names.get(old, old) for old in self.processes + self.kinds}
        if len(set(list(renamed.values()))) != len(renamed):
            raise InvalidOperation("two would have one name")
        machines = {renamed[name]: _with_kinds_renamed(self._machines[name], renamed) for name in self._machines}
        kinds = {renamed[name]: (renamed[sender], renamed[receiver], room, sure)
                 for name, (sender, receiver, room, sure) in self._kinds.items()}
        return Program(machines, kinds)

    def __or__(self, other):
        if not isinstance(other, Program):
            raise InvalidOperation("only programs can stand side by side")
        if any([name in other for name in self.processes + self.kinds]):
            raise InvalidOperation("both programs have a name in common")
        machines = {**self._machines, **other._machines}
        kinds = {**self._kinds, **other._kinds}
        if not _are_parts(machines, kinds):
            raise InvalidOperation("both programs together are too large")
        return Program(machines, kinds)

    def __getitem__(self, name):
        if name not in self:
            raise UnknownName(name)
        return self._machines[name] if name in self._machines else self._kinds[name]

    def __contains__(self, value):
        # A list cannot be looked up in a dict.
        return isinstance(value, str) and (value in self._machines or value in self._kinds)

    def __iter__(self):
        raise TypeError("a program is not iterated over")

    def __len__(self):
        return len(self._machines)

    def __eq__(self, other):
        return isinstance(other, Program) and self._machines == other._machines and self._kinds == other._kinds

    def __str__(self):
        return f"program of {len(self._machines)} processes, {len(self._kinds)} kinds"


def are_alike(one, other):
    """Whether two programs have the same talk."""
    check_program(one)
    check_program(other)
    return one.talk == other.talk
