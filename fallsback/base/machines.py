"""Machines: what a process can do in each of its states."""

from fallsback.base.words import ACTS, KEEPINGS, is_below, is_word
from fallsback.errors import InvalidMachine, InvalidNumber

MAX_STATES = 6
MAX_MOVES = 6
MAX_PRICE = 9


def is_price(value):
    """Whether the value is a price."""
    return is_below(value, MAX_PRICE + 1)


def is_move(value):
    """Whether the value has the form of a move, with any state as its target."""
    if not isinstance(value, tuple) or len(value) != 5:
        return False
    act, kind, target, price, keeping = value
    return (_can_have_kind(act, kind) and is_below(target, MAX_STATES)
            and is_price(price) and can_have_keeping(act, keeping))


def _can_have_kind(act, kind):
    if act in ("send", "take"):
        return is_word(kind)
    return act in ACTS and kind is None


def can_have_keeping(act, keeping):
    """Whether a move with this act can have this keeping."""
    if keeping == "note":
        return act == "take"
    return keeping in KEEPINGS


def _are_states(value):
    """Whether the tuple is that of the states of a machine."""
    if not 1 <= len(value) <= MAX_STATES:
        return False
    return all([_is_state(state, len(value)) for state in value])


def _is_state(value, many):
    """Whether the value is a state of a machine with so many states."""
    if not isinstance(value, tuple) or len(value) > MAX_MOVES:
        return False
    return all([is_move(move) and move[2] < many for move in value])


def _is_pair(value):
    return isinstance(value, tuple) and len(value) == 2


def _check_index(value, many):
    # Python itself would take an index below 0, and True for 1.
    if not is_below(value, many):
        raise InvalidNumber(value)


def _check_price(value):
    # Where there are no moves, no move would show that the price is wrong.
    if not is_price(value):
        raise InvalidMachine("a price is an integer from 0 to 9")


def _all_moves(states):
    """The list of the moves of all states, in order."""
    return [move for state in states for move in state]


def _numbered(states):
    """The list of the triples (state, number, move), in order."""
    return [(at, number, move) for at, state in enumerate(states) for number, move in enumerate(state)]


def _kinds_with(act, states):
    """The ascending tuple of the kinds of the moves with this act."""
    return tuple(sorted({move[1] for move in _all_moves(states) if move[0] == act}))


def _with_price(price, state):
    """The state with this price of all its moves."""
    return tuple([(act, kind, target, price, keeping) for act, kind, target, _, keeping in state])


class Machine:
    """What a process can do: one to six states, each a tuple of at most six moves."""

    def __init__(self, *states):
        if not _are_states(states):
            raise InvalidMachine("a machine has one to six states, tuples of at most six moves to them")
        self._states = states

    @classmethod
    def of(cls, states):
        """The machine with this tuple of states."""
        if not isinstance(states, tuple):
            raise InvalidMachine("the states are a tuple")
        return cls(*states)

    @classmethod
    def free(cls, *acts, price=0):
        """The machine with one state and a move for each pair (act, kind)."""
        if not all([_is_pair(pair) for pair in acts]):
            raise InvalidMachine("an act stands in a pair (act, kind)")
        _check_price(price)
        return cls(tuple([(act, kind, 0, price, None) for act, kind in acts]))

    @property
    def states(self):
        """The tuple of the states."""
        return self._states

    @property
    def sends(self):
        """The ascending tuple of the kinds that moves send."""
        return _kinds_with("send", self._states)

    @property
    def takes(self):
        """The ascending tuple of the kinds that moves take."""
        return _kinds_with("take", self._states)

    @property
    def kept(self):
        """The ascending tuple of the pairs (state, number) of the moves with a keeping."""
        return tuple([(state, number) for state, number, move in _numbered(self._states) if move[4] is not None])

    def moves(self):
        """All triples (state, number, move), in order."""
        for triple in _numbered(self._states):
            yield triple

    def with_state(self, state, *moves):
        """The machine with these moves in this state."""
        _check_index(state, len(self._states))
        states = list(self._states)
        states[state] = moves
        return Machine(*states)

    def with_keeping(self, state, number, keeping):
        """The machine with this keeping of this move."""
        act, kind, target, price, _ = self[state, number]
        moves = list(self._states[state])
        moves[number] = (act, kind, target, price, keeping)
        return self.with_state(state, *moves)

    def priced(self, price):
        """The machine with this price of all moves."""
        _check_price(price)
        states = [_with_price(price, state) for state in self._states]
        return Machine(*states)

    def __getitem__(self, at):
        if not _is_pair(at):
            _check_index(at, len(self._states))
            return self._states[at]
        state, number = at
        _check_index(state, len(self._states))
        moves = self._states[state]
        _check_index(number, len(moves))
        return moves[number]

    def __iter__(self):
        raise TypeError("a machine is not iterated over")

    def __len__(self):
        return len(self._states)

    def __eq__(self, other):
        return isinstance(other, Machine) and self._states == other._states

    def __str__(self):
        return f"machine of {len(self._states)} states, {len(_all_moves(self._states))} moves, {len(self.kept)} kept"
