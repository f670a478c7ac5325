import unittest

from fallsback.base import machines
from fallsback.base.machines import MAX_MOVES, MAX_PRICE, MAX_STATES, is_move, is_price
from tests.values import EVERY

ACTS_WITH_KIND = ("send", "take")
ACTS_WITHOUT_KIND = ("work", "output")
ALL_ACTS = ACTS_WITH_KIND + ACTS_WITHOUT_KIND
RIGHT = (
    ("work", None, 0, 0, None), ("output", None, 5, 9, "save"), ("send", "abcdefgh", 3, 4, "save"),
    ("send", "a", 0, 0, None), ("take", "m", 1, 2, None), ("take", "m", 1, 2, "save"), ("take", "m", 1, 2, "note"),
)


def move_with(act, at, part):
    """A right move of this act, with another part at this index."""
    parts = [act, "m" if act in ACTS_WITH_KIND else None, 0, 1, None]
    parts[at] = part
    return tuple(parts)


class Constants(unittest.TestCase):
    def test_constants(self):
        self.assertEqual(repr((MAX_STATES, MAX_MOVES, MAX_PRICE)), "(6, 6, 9)")

    def test_the_function_stands_in_its_file(self):
        self.assertEqual(is_move.__module__, machines.__name__)


class Moves(unittest.TestCase):
    def judge(self, expected, values, act, at):
        for part in values:
            self.assertIs(is_move(move_with(act, at, part)), expected, (act, at, part))

    def test_right_moves(self):
        for move in RIGHT:
            self.assertIs(is_move(move), True, move)

    def test_acts(self):
        for act in ACTS_WITHOUT_KIND:
            self.assertIs(is_move((act, None, 0, 0, None)), True)
            self.assertIs(is_move((act, "m", 0, 0, None)), False)
        for act in ACTS_WITH_KIND:
            self.assertIs(is_move((act, "m", 0, 0, None)), True)
            self.assertIs(is_move((act, None, 0, 0, None)), False)
        for act in EVERY + ("Send", "sends", "work ", "outputs", "save"):
            if act != "send":
                self.assertIs(is_move((act, None, 0, 0, None)), False, act)
                self.assertIs(is_move((act, "m", 0, 0, None)), False, act)

    def test_kinds(self):
        for act in ACTS_WITH_KIND:
            self.judge(True, ("a", "ask", "abcdefgh"), act, 1)
            wrong = [value for value in EVERY if value not in ("a", "save", "note", "send")]
            self.judge(False, wrong + ["", "abcdefghi", "As", "a1", "a b", "ask\n"], act, 1)
        for act in ACTS_WITHOUT_KIND:
            self.judge(False, [value for value in EVERY if value is not None], act, 1)

    def test_targets(self):
        for act in ALL_ACTS:
            self.judge(True, (0, 1, 2, 3, 4, 5), act, 2)
            self.judge(False, (-1, 6, 7, 10 ** 60, -(10 ** 60), True, False, None, "0", (0,), [0], {}), act, 2)

    def test_prices(self):
        for act in ALL_ACTS:
            self.judge(True, tuple(range(10)), act, 3)
            self.judge(False, (-1, 10, 11, 10 ** 60, -(10 ** 60), True, False, None, "0", (0,), [0], {}), act, 3)

    def test_keepings(self):
        for act in ALL_ACTS:
            self.judge(True, (None, "save"), act, 4)
            self.judge(act == "take", ("note",), act, 4)
            wrong = [value for value in EVERY if value not in (None, "save", "note")]
            self.judge(False, wrong + ["Save", "notes", ""], act, 4)

    def test_other_lengths(self):
        for move in RIGHT:
            self.assertIs(is_move(move[:4]), False)
            self.assertIs(is_move(move[1:]), False)
            self.assertIs(is_move(move + (None,)), False)
            self.assertIs(is_move(move + ("save",)), False)

    def test_lists_are_no_moves(self):
        for move in RIGHT:
            self.assertIs(is_move(list(move)), False)

    def test_other_values_are_no_moves(self):
        for value in EVERY + ("works", {"work": None, "m": 0, "a": 1, "b": 2, "c": 3}):
            self.assertIs(is_move(value), False, value)


class Prices(unittest.TestCase):
    def test_prices(self):
        for value in EVERY:
            is_one = not isinstance(value, bool) and value in tuple(range(10))
            self.assertIs(is_price(value), is_one, value)


if __name__ == "__main__":
    unittest.main()
