"""Ledgers: what the failure of each process would cost, gone on with step by step."""

from fallsback.base.programs import check_failed, check_program
from fallsback.base.turns import CODES, is_placed, turn_at
from fallsback.base.words import is_integer, is_word
from fallsback.errors import InvalidOperation, InvalidRun
from fallsback.rows.spots import (
    bits, first_spot, holders_at, lanes_at, last_letter, names_in, row_in, slot_in, spot_behind, standing_at, states_at,
)
from fallsback.run.pieces import chart_of, reached
from fallsback.run.runs import check_run


def holders(run):
    """The tuple of all holders behind a run: processes, then letters of sure kinds in lanes, as (kind, position)."""
    check_run(run)
    program = run.program
    return program.processes + tuple([letter for letter in _letters_under_way(run) if program[letter[0]][3]])


def rows_of(run):
    """The dict from the holders behind a run to their rows, by its pieces and arrows."""
    check_run(run)
    table, pieces, newest = chart_of(run)
    names = run.program.processes
    sent = _letters_under_way(run)
    rows = {}
    for holder in holders(run):
        piece = newest[names.index(holder)] if holder in names else pieces[sent[holder]]
        found = reached(table, [piece])
        letters = [letter for letter in sent if pieces[sent[letter]] in found]
        rows[holder] = (_prices_in(run, pieces, found), tuple(letters))
    return rows


def _letters_under_way(run):
    """The dict from all letters in lanes, as (kind, position), to the indices of the steps that sent them."""
    return {(kind, position): sent for kind, lane in run.lanes.items() for position, sent in enumerate(lane)}


def _prices_in(run, pieces, found):
    """The dict from the processes of the found pieces to the sums of the prices of the steps in these."""
    prices = {name: 0 for name in sorted({process for process, _ in found})}
    for piece, (turn, _, _, _, _, _) in zip(pieces, run.beats):
        if piece in found:
            prices[piece[0]] += turn.price
    return prices


def joined(one, other):
    """Two rows joined."""
    _check_row(one)
    _check_row(other)
    names = sorted(set([*one[0], *other[0]]))
    prices = {name: max(one[0].get(name, 0), other[0].get(name, 0)) for name in names}
    return (prices, tuple(sorted(set(one[1] + other[1]))))


def _check_row(value):
    if not isinstance(value, tuple) or len(value) != 2 or not _are_prices(value[0]) or not _are_letters(value[1]):
        raise InvalidOperation("a row is a pair of a dict of prices and an ascending tuple of letters")


def _are_prices(value):
    if not isinstance(value, dict):
        return False
    return all([is_word(name) and _is_number(value[name]) for name in value])


def _are_letters(value):
    if not isinstance(value, tuple) or not all([_is_letter(letter) for letter in value]):
        return False
    return list(value) == sorted(set(value))


def _is_letter(value):
    return isinstance(value, tuple) and len(value) == 2 and is_word(value[0]) and _is_number(value[1])


def _is_number(value):
    return is_integer(value) and value >= 0


def _row_at(program, grid, prices, code):
    """The row of the holder with this code."""
    names, letters = names_in(program, row_in(grid, code))
    return ({name: row[code] for name, row in zip(program.processes, prices) if name in names}, letters)


def _pay(pose, grid, turn, prices):
    """Goes on with the prices of all rows: for each process a list of those of the holders with each code."""
    process = turn.process
    if turn.price:
        paid = prices[process]
        for code in bits(slot_in(grid, process)):
            paid[code] += turn.price
    if turn.act == "send" and turn.sure:
        newest = turn.letter + (pose >> turn.lane & 3)
        for row in prices:
            row[newest] = row[process]
    elif turn.act == "take":
        _pay_take(prices, turn, bits(slot_in(grid, turn.letter)), bits(slot_in(grid, process)))
        last = last_letter(pose, turn)
        for row in prices:
            row[turn.letter] = row[last]
            row[last] = 0
    if is_placed(pose, turn):
        for row in prices:
            row[process] = 0


def _pay_take(prices, turn, with_letter, with_process):
    """The rows of these holders are joined with that of the process and with that of the letter that it takes."""
    for row in prices:
        own, other = row[turn.process], row[turn.letter]
        for code in with_letter:
            if row[code] < own:
                row[code] = own
        for code in with_process:
            if row[code] < other:
                row[code] = other


class Ledger:
    """The rows of a run, gone on with step by step."""

    def __init__(self, program):
        check_program(program)
        self._program = program
        self._pose, self._grid = first_spot(program)
        self._prices = [[0] * CODES for _ in program.processes]
        self._many = 0

    @classmethod
    def of(cls, run):
        """The ledger behind a run."""
        check_run(run)
        ledger = cls(run.program)
        steps = run.steps
        ledger.do(*steps)
        return ledger

    @property
    def program(self):
        """The program that runs."""
        return self._program

    @property
    def states(self):
        """The dict from the processes to their states."""
        return states_at(self._program, self._pose)

    @property
    def lanes(self):
        """The dict from the kinds to the numbers of letters in their lanes."""
        return lanes_at(self._program, self._pose)

    @property
    def rows(self):
        """The dict from the holders, processes first, to their rows."""
        return {self._program.labels[code]: _row_at(self._program, self._grid, self._prices, code)
                for code in holders_at(self._program, self._pose)}

    @property
    def standing(self):
        """The standing behind the steps."""
        return standing_at(self._program, self._pose, self._grid)

    def row(self, holder):
        """The row of a holder."""
        # Compared by its text, a letter at False is not one at 0.
        for code in holders_at(self._program, self._pose):
            if repr(self._program.labels[code]) == repr(holder):
                return _row_at(self._program, self._grid, self._prices, code)
        raise InvalidOperation("there is no such holder")

    def do(self, *steps):
        """Does the steps, all or none, and returns the number of all steps done so far."""
        pose, grid = self._pose, self._grid
        prices = [list(row) for row in self._prices]
        for at, step in enumerate(steps):
            turn = turn_at(self._program.turns, pose, step)
            if turn is None:
                raise InvalidRun(at)
            _pay(pose, grid, turn, prices)
            pose, grid = spot_behind(pose, grid, turn)
        self._pose, self._grid, self._prices = pose, grid, prices
        self._many += len(steps)
        return self._many

    def loses(self, *failed):
        """The dict from all processes to their losses if these fail."""
        check_failed(self._program, failed)
        codes = [self._program.processes.index(name) for name in failed]
        return {name: max([self._prices[at][code] for code in codes])
                for at, name in enumerate(self._program.processes)}

    def twin(self):
        """Another ledger in the same state."""
        other = Ledger(self._program)
        other._pose, other._grid, other._many = self._pose, self._grid, self._many
        other._prices = [list(row) for row in self._prices]
        return other

    def __len__(self):
        # The steps themselves are not kept.
        return len(range(self._many))

    def __eq__(self, other):
        return (isinstance(other, Ledger) and self._program == other._program
                and self._pose == other._pose and self._grid == other._grid and self._prices == other._prices)

    def __str__(self):
        return f"ledger of {len(self)} steps, {len(holders_at(self._program, self._pose))} holders"
