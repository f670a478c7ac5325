import copy
import unittest

from fallsback.base import machines
from fallsback.base.machines import Machine
from fallsback.errors import InvalidMachine, InvalidNumber
from tests.examples import raised, run_examples
from tests.values import EVERY, INTEGERS, OTHERS

WORK = ("work", None, 0, 1, None)
ONCE_STATES = ((("output", None, 1, 2, None),), (("send", "m", 2, 3, "save"),), ())
BIG_STATES = (
    (("take", "z", 1, 0, "note"), ("send", "b", 2, 9, None), ("take", "z", 0, 4, "save")),
    (),
    (("send", "a", 2, 1, "save"), WORK, ("take", "c", 1, 2, None), ("output", None, 0, 0, "save")),
)
EXAMPLE = """
>>> once = Machine((("output", None, 1, 2, None),), (("send", "m", 2, 3, "save"),), ())
>>> [len(once), once[1], once[0, 0][3], once.sends, once.kept, str(once)]
[3, (('send', 'm', 2, 3, 'save'),), 2, ('m',), ((1, 0),), 'machine of 3 states, 2 moves, 1 kept']
>>> [once.with_keeping(0, 0, "save").kept, once.priced(0)[1, 0], Machine.free(("take", "m"), ("work", None), price=1)[0]]
[((0, 0), (1, 0)), ('send', 'm', 2, 0, 'save'), (('take', 'm', 0, 1, None), ('work', None, 0, 1, None))]
>>> once.with_keeping(0, 0, "note")
raises InvalidMachine
"""


def once():
    return Machine(*ONCE_STATES)


def big():
    return Machine(*BIG_STATES)


class MachineCase(unittest.TestCase):
    def assert_wrong_number(self, call, value):
        """The call raises InvalidNumber, and this with just this value."""
        error = raised(call)
        self.assertIs(error.__class__, InvalidNumber, value)
        self.assertIs(error.value, value)
        self.assertEqual(str(error), repr(value))

    def assert_no_machine(self, call, told=None):
        self.assertIs(raised(call).__class__, InvalidMachine, told)


class Example(unittest.TestCase):
    def test_example(self):
        run_examples(self, EXAMPLE, {"Machine": Machine})


class Making(MachineCase):
    def assert_states(self, expected, *states):
        if expected:
            self.assertEqual(Machine(*states).states, states)
            self.assertEqual(Machine.of(states).states, states)
        else:
            self.assert_no_machine(lambda: Machine(*states), states)
            self.assert_no_machine(lambda: Machine.of(states), states)

    def test_one_to_six_states(self):
        for many in range(9):
            self.assert_states(1 <= many <= 6, *[()] * many)
            self.assert_states(1 <= many <= 6, *[(WORK,)] * many)

    def test_at_most_six_moves(self):
        for many in range(9):
            self.assert_states(many <= 6, (WORK,) * many)
            self.assert_states(many <= 6, (), (WORK,) * many, ())

    def test_targets_are_states(self):
        for many in range(1, 7):
            for target in range(-1, 8):
                states = [()] * (many - 1) + [(("work", None, target, 0, None),)]
                self.assert_states(0 <= target < many, *states)

    def test_each_state_is_a_tuple_of_moves(self):
        for value in EVERY:
            if value != ():
                self.assert_states(False, value)
                self.assert_states(False, (), value)
                self.assert_states(False, (WORK,), value, ())
            self.assert_states(False, (value,))
            self.assert_states(False, (), (WORK, value))
        self.assert_states(False, [WORK])
        self.assert_states(False, (list(WORK),))
        self.assert_states(False, WORK)
        self.assert_states(False, (WORK[:4],))
        self.assert_states(False, (WORK + (None,),))

    def test_parts_of_moves(self):
        wrong = (
            ("fly", None, 0, 1, None), ("work", "m", 0, 1, None), ("send", None, 0, 1, None),
            ("take", "M", 0, 1, None), ("work", None, True, 1, None), ("work", None, False, 1, None),
            ("work", None, 0, 10, None), ("work", None, 0, -1, None), ("work", None, 0, True, None),
            ("work", None, 0, 1, "note"), ("send", "m", 0, 1, "note"), ("output", None, 0, 1, "note"),
            ("take", "m", 0, 1, "keep"), ("take", "m", 0, 1, False),
        )
        for move in wrong:
            self.assert_states(False, (move,))
            self.assert_states(False, (WORK,), (WORK, move))

    def test_of_takes_a_tuple(self):
        for value in EVERY:
            if value != ((), ()):
                self.assert_no_machine(lambda: Machine.of(value), value)
        self.assertEqual(Machine.of(((), ())), Machine((), ()))
        self.assert_no_machine(lambda: Machine.of(list(ONCE_STATES)))
        self.assert_no_machine(lambda: Machine.of({(): ()}))

    def test_both_ways_give_the_same(self):
        for states in (ONCE_STATES, BIG_STATES, ((),)):
            self.assertTrue(Machine(*states) == Machine.of(states))

    def test_equal_moves_can_stand_side_by_side(self):
        self.assert_states(True, (WORK, WORK, WORK))

    def test_what_was_passed_stays(self):
        states = [[list(WORK)], ([WORK],), (WORK,)]
        before = copy.deepcopy(states)
        self.assert_no_machine(lambda: Machine(*states))
        self.assert_no_machine(lambda: Machine.of(states))
        self.assertEqual(states, before)
        passed = list(BIG_STATES)
        machine = Machine(*passed)
        passed.clear()
        self.assertEqual(machine.states, BIG_STATES)

    def test_methods_stand_in_the_class_and_in_its_file(self):
        self.assertEqual(Machine.__module__, machines.__name__)
        listed = (
            "__init__ of free states sends takes kept moves with_state with_keeping priced "
            "__getitem__ __len__ __eq__ __str__"
        )
        for name in listed.split():
            self.assertIn(name, vars(Machine))


class Properties(unittest.TestCase):
    def test_states(self):
        for states in (ONCE_STATES, BIG_STATES, ((),)):
            self.assertEqual(repr(Machine(*states).states), repr(states))

    def test_sends_and_takes(self):
        self.assertEqual([once().sends, once().takes], [("m",), ()])
        self.assertEqual([big().sends, big().takes], [("a", "b"), ("c", "z")])
        self.assertEqual([Machine(()).sends, Machine((WORK,)).takes], [(), ()])

    def test_kept(self):
        self.assertEqual(once().kept, ((1, 0),))
        self.assertEqual(big().kept, ((0, 0), (0, 2), (2, 0), (2, 3)))
        self.assertEqual([Machine(()).kept, Machine((WORK,)).kept], [(), ()])

    def test_properties_are_not_assigned(self):
        for name in ("states", "sends", "takes", "kept"):
            machine = big()
            self.assertRaises(AttributeError, lambda: setattr(machine, name, ()))
            self.assertEqual(machine, big())


class Reading(MachineCase):
    def test_states(self):
        for states in (ONCE_STATES, BIG_STATES):
            for at, state in enumerate(states):
                self.assertEqual(Machine(*states)[at], state)

    def test_moves(self):
        for states in (ONCE_STATES, BIG_STATES):
            for at, state in enumerate(states):
                for number, move in enumerate(state):
                    self.assertEqual(Machine(*states)[at, number], move)

    def test_wrong_indices_of_states(self):
        for value in (-1, -3, 3, 4, 6, 10 ** 59):
            self.assert_wrong_number(lambda: once()[value], value)
        for value in OTHERS:
            if not (isinstance(value, tuple) and len(value) == 2):
                self.assert_wrong_number(lambda: once()[value], value)

    def test_neither_an_index_nor_a_pair(self):
        for value in ((), (0,), (0, 0, 0), [0, 0], [0], "00", {0: 0, 1: 0}, None):
            self.assert_wrong_number(lambda: once()[value], value)

    def test_wrong_states_in_pairs(self):
        for value in OTHERS + (-1, 3, 4):
            self.assert_wrong_number(lambda: once()[value, 0], value)

    def test_wrong_numbers_in_pairs(self):
        for value in OTHERS + (-1, 1, 2):
            self.assert_wrong_number(lambda: once()[0, value], value)
        for value in INTEGERS:
            self.assert_wrong_number(lambda: once()[2, value], value)
        self.assert_wrong_number(lambda: big()[2, 4], 4)

    def test_the_first_of_both_is_told(self):
        for state, number in ((-1, 7), (3, -1), (True, False), (None, 9), ("0", "1"), ((0,), (1,)), ([], {})):
            self.assert_wrong_number(lambda: once()[state, number], state)

    def test_len(self):
        self.assertEqual([len(once()), len(big()), len(Machine(())), len(Machine(*[()] * 6))], [3, 3, 1, 6])

    def test_texts(self):
        self.assertEqual(str(once()), "machine of 3 states, 2 moves, 1 kept")
        self.assertEqual(str(big()), "machine of 3 states, 7 moves, 4 kept")
        self.assertEqual(str(Machine(())), "machine of 1 states, 0 moves, 0 kept")
        self.assertEqual(str(Machine(*[(WORK,) * 6] * 6)), "machine of 6 states, 36 moves, 0 kept")


class Comparing(unittest.TestCase):
    def assert_equal(self, one, other, expected):
        self.assertIs(one == other, expected, other)
        self.assertIs(other == one, expected, other)
        self.assertIs(one != other, not expected, other)
        self.assertIs(other != one, not expected, other)

    def test_equal_states(self):
        self.assert_equal(big(), big(), True)
        self.assert_equal(Machine(()), Machine.free(), True)

    def test_other_states(self):
        self.assert_equal(once(), big(), False)
        self.assert_equal(Machine((), ()), Machine(()), False)
        self.assert_equal(Machine((WORK,), ()), Machine((), (WORK,)), False)
        for at, part in ((0, "output"), (2, 1), (3, 2), (4, "save")):
            move = WORK[:at] + (part,) + WORK[at + 1:]
            self.assert_equal(Machine((WORK,), ()), Machine((move,), ()), False)

    def test_order_of_moves_counts(self):
        one, other = WORK, ("output", None, 0, 1, None)
        self.assert_equal(Machine((one, other)), Machine((other, one)), False)

    def test_every_other_value(self):
        machine = Machine((WORK,))
        for value in EVERY + (machine.states, list(machine.states), str(machine), Machine):
            self.assert_equal(machine, value, False)


class Iterating(unittest.TestCase):
    def test_iteration_raises_type_error(self):
        for machine in (once(), big(), Machine(())):
            self.assertRaises(TypeError, iter, machine)
            self.assertRaises(TypeError, list, machine)
            self.assertRaises(TypeError, tuple, machine)
            self.assertRaises(TypeError, sorted, machine)
            self.assertRaises(TypeError, lambda: [state for state in machine])
            self.assertRaises(TypeError, lambda: () in machine)

    def test_moves_are_a_generator(self):
        generator = once().moves()
        self.assertIs(iter(generator), generator)
        self.assertEqual(next(generator), (0, 0, ("output", None, 1, 2, None)))
        self.assertEqual(next(generator), (1, 0, ("send", "m", 2, 3, "save")))
        self.assertRaises(StopIteration, next, generator)

    def test_moves_in_order(self):
        expected = [(at, number, move) for at, state in enumerate(BIG_STATES) for number, move in enumerate(state)]
        self.assertEqual(list(big().moves()), expected)
        self.assertEqual([triple[:2] for triple in expected], [(0, 0), (0, 1), (0, 2), (2, 0), (2, 1), (2, 2), (2, 3)])
        self.assertEqual(list(Machine((), ()).moves()), [])


class WithState(MachineCase):
    def test_other_moves(self):
        machine = big()
        self.assertEqual(machine.with_state(1, WORK).states, (BIG_STATES[0], (WORK,), BIG_STATES[2]))
        self.assertEqual(machine.with_state(0).states, ((),) + BIG_STATES[1:])
        self.assertEqual(machine.with_state(2, WORK, WORK).states, BIG_STATES[:2] + ((WORK, WORK),))
        self.assertEqual(machine.with_state(2, *[WORK] * 6)[2], (WORK,) * 6)
        self.assertEqual(machine.states, BIG_STATES)

    def test_wrong_states(self):
        for value in OTHERS + (-1, 3, 4):
            self.assert_wrong_number(lambda: once().with_state(value), value)
            self.assert_wrong_number(lambda: once().with_state(value, WORK), value)
            self.assert_wrong_number(lambda: once().with_state(value, "no move"), value)

    def test_wrong_moves(self):
        machine = once()
        for value in EVERY:
            self.assert_no_machine(lambda: machine.with_state(1, value), value)
            self.assert_no_machine(lambda: machine.with_state(1, WORK, value), value)
        self.assert_no_machine(lambda: machine.with_state(0, *[WORK] * 7))
        self.assert_no_machine(lambda: machine.with_state(0, (WORK,)))
        self.assert_no_machine(lambda: machine.with_state(0, ("work", None, 3, 1, None)))
        self.assertEqual(machine.states, ONCE_STATES)


class WithKeeping(MachineCase):
    def test_other_keepings(self):
        machine = big()
        self.assertEqual(machine.with_keeping(0, 0, None)[0, 0], ("take", "z", 1, 0, None))
        self.assertEqual(machine.with_keeping(0, 0, "save")[0, 0], ("take", "z", 1, 0, "save"))
        self.assertEqual(machine.with_keeping(2, 2, "note")[2, 2], ("take", "c", 1, 2, "note"))
        self.assertEqual(machine.with_keeping(2, 1, "save").kept, ((0, 0), (0, 2), (2, 0), (2, 1), (2, 3)))
        self.assertEqual(machine.with_keeping(0, 0, "note"), machine)
        changed = machine.with_keeping(0, 2, None)
        self.assertEqual(changed.states, (BIG_STATES[0][:2] + (("take", "z", 0, 4, None),),) + BIG_STATES[1:])
        self.assertEqual(machine.states, BIG_STATES)

    def test_wrong_states_and_numbers(self):
        for value in OTHERS + (-1, 3, 4):
            self.assert_wrong_number(lambda: once().with_keeping(value, 0, None), value)
            self.assert_wrong_number(lambda: once().with_keeping(value, -1, "keep"), value)
        for value in OTHERS + (-1, 1, 2):
            self.assert_wrong_number(lambda: once().with_keeping(0, value, None), value)
            self.assert_wrong_number(lambda: once().with_keeping(0, value, "keep"), value)
        self.assert_wrong_number(lambda: once().with_keeping(2, 0, None), 0)

    def test_wrong_keepings(self):
        machine = big()
        for value in EVERY:
            if value not in (None, "save", "note"):
                self.assert_no_machine(lambda: machine.with_keeping(0, 0, value), value)
        for state, number in ((0, 1), (2, 0), (2, 1), (2, 3)):
            self.assert_no_machine(lambda: machine.with_keeping(state, number, "note"))
        self.assertEqual(machine.states, BIG_STATES)


class Priced(MachineCase):
    def test_all_moves_have_the_price(self):
        machine = big()
        for price in range(10):
            priced = machine.priced(price)
            self.assertEqual([move[3] for _, _, move in priced.moves()], [price] * 7)
            self.assertEqual(
                [move[:3] + move[4:] for _, _, move in priced.moves()],
                [move[:3] + move[4:] for _, _, move in machine.moves()],
            )
            self.assertEqual([len(state) for state in priced.states], [3, 0, 4])
        self.assertEqual(machine.states, BIG_STATES)

    def test_wrong_prices_also_without_moves(self):
        for value in OTHERS + (-1, -2, 10, 11):
            for machine in (big(), Machine(()), Machine((), ())):
                self.assert_no_machine(lambda: machine.priced(value), value)

    def test_without_moves(self):
        self.assertEqual(Machine((), ()).priced(9), Machine((), ()))


class Free(MachineCase):
    def test_moves_in_the_order_given(self):
        pairs = (("take", "m"), ("work", None), ("send", "a"), ("output", None), ("take", "m"))
        self.assertEqual(Machine.free(*pairs).states, (tuple((act, kind, 0, 0, None) for act, kind in pairs),))
        self.assertEqual(Machine.free(*pairs, price=9)[0], tuple((act, kind, 0, 9, None) for act, kind in pairs))
        self.assertEqual(Machine.free().states, ((),))
        self.assertEqual(Machine.free(price=3).states, ((),))

    def test_wrong_pairs(self):
        wrong = (
            ("send", None), ("work", "m"), ("fly", None), ("send", "M"), ("send",), ("send", "m", 0), ["send", "m"],
            ("send", "m", 0, 0, None), "ab", {"send": 0, "m": 0}, (["send"], "m"),
        )
        right = ("send", "m")
        for value in wrong + tuple(other for other in EVERY if other != right):
            self.assert_no_machine(lambda: Machine.free(value), value)
            self.assert_no_machine(lambda: Machine.free(right, value, price=1), value)

    def test_at_most_six_pairs(self):
        self.assertEqual(len(Machine.free(*[("work", None)] * 6)[0]), 6)
        self.assert_no_machine(lambda: Machine.free(*[("work", None)] * 7))

    def test_wrong_prices_also_without_moves(self):
        for value in OTHERS + (-1, -2, 10, 11):
            self.assert_no_machine(lambda: Machine.free(price=value), value)
            self.assert_no_machine(lambda: Machine.free(("work", None), price=value), value)
            self.assert_no_machine(lambda: Machine.free("work", price=value), value)

    def test_the_price_is_a_keyword(self):
        self.assert_no_machine(lambda: Machine.free(("work", None), 1))


if __name__ == "__main__":
    unittest.main()
