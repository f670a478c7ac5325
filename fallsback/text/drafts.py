"""Drafts: what the lines of a text have told of a program so far."""

from fallsback.base.machines import Machine
from fallsback.base.programs import Program
from fallsback.base.words import is_word
from fallsback.errors import InvalidMachine, InvalidProgram
from fallsback.text.words import number_of

_SURE = {"sure": True, "losable": False}


class Draft:
    """The kinds and the processes of a program, read line by line."""

    def __init__(self):
        self._tuples = {}
        self._machines = {}

    def reads(self, words):
        """Whether these words are those of a line that may stand here. If so, the draft has it then."""
        if words[0] == "kind":
            return self._reads_kind(words)
        if words[0] == "process":
            return self._reads_process(words)
        if not self._machines:
            return False
        states = list(self._machines.values())[-1]
        if words == ["state"]:
            states.append([])
            return True
        move = _move_of(words)
        if not states or move is None:
            return False
        states[-1].append(move)
        return True

    def _reads_kind(self, words):
        if len(words) != 6 or not all([is_word(name) for name in words[1:4]]) or words[5] not in _SURE:
            return False
        _, name, sender, receiver, room, sure = words
        if number_of(room) is None or self._machines or not _is_next(name, self._tuples):
            return False
        self._tuples[name] = (sender, receiver, number_of(room), _SURE[sure])
        return True

    def _reads_process(self, words):
        if len(words) != 2 or not is_word(words[1]) or not _is_next(words[1], self._machines):
            return False
        self._machines[words[1]] = []
        return True

    def done(self):
        """The program of all lines, or None if there is none."""
        try:
            machines = {name: Machine.of(tuple([tuple(state) for state in states]))
                        for name, states in self._machines.items()}
            return Program(machines, self._tuples)
        except (InvalidMachine, InvalidProgram):
            return None


def _is_next(name, table):
    """Whether the name comes behind all names in the table, which ascend."""
    return all([other < name for other in table])


def _move_of(words):
    """The move that the words of a line are, or None."""
    act, kind, rest = words[0], None, words[1:]
    if act in ("send", "take"):
        if len(words) < 2 or not is_word(words[1]):
            return None
        kind, rest = words[1], words[2:]
    elif act not in ("work", "output"):
        return None
    if len(rest) not in (3, 4) or rest[1] != "cost" or (len(rest) == 4 and rest[3] not in ("save", "note")):
        return None
    target, price = number_of(rest[0]), number_of(rest[2])
    if target is None or price is None:
        return None
    return (act, kind, target, price, rest[3] if len(rest) == 4 else None)
