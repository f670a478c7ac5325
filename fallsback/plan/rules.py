"""Rules: what a process keeps, told by its own sends and takes alone."""

from fallsback.base.machines import MAX_STATES, Machine, can_have_keeping
from fallsback.base.programs import Program, check_program
from fallsback.base.words import is_below, is_word
from fallsback.errors import InvalidMachine, InvalidNumber, InvalidOperation, TooMany, UnknownName
from fallsback.rows.losses import greatest_loss

_ACTS = ("send", "take")


def _are_states(value):
    """Whether the tuple is that of the states of a rule."""
    return 1 <= len(value) <= MAX_STATES and all([_is_state(state, len(value)) for state in value])


def _is_state(value, many):
    """Whether the value is a state of a rule with so many states."""
    if not isinstance(value, tuple) or not all([_is_entry(entry, many) for entry in value]):
        return False
    return len({entry[:2] for entry in value}) == len(value)


def _is_entry(value, many):
    """Whether the value is an entry of a rule with so many states."""
    if not isinstance(value, tuple) or len(value) != 4:
        return False
    act, kind, target, keeping = value
    return act in _ACTS and is_word(kind) and is_below(target, many) and can_have_keeping(act, keeping)


def _is_pair(value):
    return isinstance(value, tuple) and len(value) == 2


class Rule:
    """What a process keeps: one to six states, each a tuple of entries (act, kind, target, keeping)."""

    def __init__(self, *states):
        if not _are_states(states):
            raise InvalidMachine("a rule has one to six states, tuples of entries, one for each send or take")
        self._states = states

    @classmethod
    def of(cls, states):
        """The rule with this tuple of states."""
        if not isinstance(states, tuple):
            raise InvalidMachine("the states are a tuple")
        return cls(*states)

    @classmethod
    def each(cls, *acts):
        """The rule with one state that saves with each of these pairs (act, kind)."""
        if not all([_is_pair(pair) for pair in acts]):
            raise InvalidMachine("an act stands in a pair (act, kind)")
        return cls(tuple([(act, kind, 0, "save") for act, kind in acts]))

    @property
    def states(self):
        """The tuple of the states."""
        return self._states

    def __getitem__(self, at):
        if not isinstance(at, tuple) or len(at) != 3 or at[1] not in _ACTS or not is_word(at[2]):
            raise InvalidOperation("an index is a triple (state, act, kind)")
        if not is_below(at[0], len(self._states)):
            raise InvalidNumber(at[0])
        found = [entry[2:] for entry in self._states[at[0]] if entry[:2] == at[1:]]
        return found[0] if found else (at[0], None)

    def __iter__(self):
        raise TypeError("a rule is not iterated over")

    def __len__(self):
        return len(self._states)

    def __eq__(self, other):
        return isinstance(other, Rule) and _in_order(self._states) == _in_order(other._states)

    def __str__(self):
        return f"rule of {len(self._states)} states"


def _in_order(states):
    """The states with their entries in ascending order."""
    return [sorted(state) for state in states]


def free_program(kinds, rules):
    """The program in which each process can send and take its kinds at any time, and keeps what its rule tells."""
    _check_rules(rules)
    return _free(kinds, rules)


def rule_loss(kinds, rules, failed, process):
    """The greatest loss in the free program that a failure of the first process causes to the second one, or None."""
    _check_rules(rules)
    for name in (failed, process):
        if not isinstance(name, str) or name not in rules:
            raise UnknownName(name)
    return greatest_loss(_free(kinds, rules), failed, process)


def ruled(program, rules):
    """The program with the keepings of the rules, whose prices count the keepings."""
    check_program(program)
    _check_rules(rules)
    if tuple(sorted(rules)) != program.processes:
        raise InvalidOperation("there is a rule for each process, and for no other one")
    machines = {name: _ruled_states(program[name], rules[name]) for name in rules}
    if any([len(machines[name]) > MAX_STATES for name in machines]):
        raise TooMany(MAX_STATES)
    return Program({name: Machine.of(machines[name]) for name in machines},
                   {kind: program[kind] for kind in program.kinds})


def _check_rules(rules):
    if not isinstance(rules, dict) or not all([is_word(name) and isinstance(rules[name], Rule) for name in rules]):
        raise InvalidOperation("rules are told by a dict from words to rules")


def _free(kinds, rules):
    """The free program of these kinds and rules."""
    # Without moves first: where there is no such program, there need not be such machines.
    idle = Program({name: Machine(()) for name in rules}, kinds)
    machines = {name: _free_machine(idle, name, rules[name]) for name in rules}
    return Program(machines, kinds)


def _free_machine(program, process, rule):
    """The machine that sends and takes all kinds of the process in each state of its rule."""
    sends = [("send", kind) for kind in program.kinds if program[kind][0] == process]
    takes = [("take", kind) for kind in program.kinds if program[kind][1] == process]
    states = [tuple([_ruled_move(rule, state, act, kind) for act, kind in sends + takes]) for state in range(len(rule))]
    return Machine(*states)


def _ruled_move(rule, state, act, kind):
    """The move for this send or take by the rule alone."""
    target, keeping = rule[state, act, kind]
    return (act, kind, target, 0 if keeping is None else 1, keeping)


def _ruled_states(machine, rule):
    """The tuple of the states of the machine that goes on with both, ascending by the states of both."""
    found = {(0, 0): True}
    ahead = [(0, 0)]
    while ahead:
        pair = ahead.pop()
        for move in _moves_at(machine, rule, pair):
            if move[2] not in found:
                found[move[2]] = True
                ahead.append(move[2])
    pairs = sorted(found)
    return tuple([tuple([(act, kind, pairs.index(target), price, keeping)
                         for act, kind, target, price, keeping in _moves_at(machine, rule, pair)]) for pair in pairs])


def _moves_at(machine, rule, pair):
    """The list of the moves of the machine at a pair of states, with such pairs as targets."""
    state, other = pair
    found = []
    for act, kind, target, _, _ in machine[state]:
        later, keeping = (other, None) if kind is None else rule[other, act, kind]
        found.append((act, kind, (target, later), 0 if keeping is None else 1, keeping))
    return found
