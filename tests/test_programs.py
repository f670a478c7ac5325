import copy
import unittest

from fallsback.base import programs
from fallsback.base.machines import Machine
from fallsback.base.programs import Program, are_alike, is_kind
from fallsback.errors import InvalidOperation, InvalidProgram, InvalidWord, UnknownName
from tests.cases import ErrorCase
from tests.drawn import draws
from tests.examples import run_examples
from tests.samples import ALONE, CALM, EVERY_PROGRAM, LOSSY, NAMES, ONCE, RING, TALK
from tests.values import EVERY, OTHERS, without

EXAMPLE = """
>>> [TALK.processes, TALK.kinds, TALK["ask"], len(TALK), str(TALK), "ask" in TALK, TALK.talk.marks]
[('a', 'b'), ('ask', 'tell'), ('a', 'b', 1, True), 2, 'program of 2 processes, 2 kinds', True, ()]
>>> [are_alike(TALK, CALM), TALK == CALM, CALM.marks, (TALK | ONCE).processes]
[True, False, (('a', 0, 0, 'save'), ('a', 0, 1, 'save'), ('b', 0, 0, 'save'), ('b', 0, 1, 'save')), ('a', 'b', 'p', 'q')]
>>> TALK.with_keeping(("a", 0, 0, "note"))
raises InvalidOperation
"""
IDLE = Machine(())
WORK = ("work", None, 0, 1, None)


def sender(*kinds):
    return Machine.free(*[("send", kind) for kind in kinds])


def taker(*kinds):
    return Machine.free(*[("take", kind) for kind in kinds])


class ProgramCase(ErrorCase):
    def assert_no_program(self, call):
        self.assert_raises(InvalidProgram(), call)

    def assert_no_operation(self, call):
        self.assert_raises(InvalidOperation(), call)


class Example(ErrorCase):
    def test_example(self):
        run_examples(self, EXAMPLE, {**NAMES, "are_alike": are_alike})

    def test_constants(self):
        found = (programs.MIN_PROCESSES, programs.MAX_PROCESSES, programs.MAX_KINDS, programs.MAX_ROOM)
        self.assertEqual(repr(found), "(2, 4, 4, 2)")

    def test_all_stands_where_it_is_listed(self):
        self.assert_listed(
            programs, Program,
            "__init__ processes kinds talk marks __getitem__ __contains__ __len__ __eq__ __str__ with_machine "
            "with_kind priced with_keeping renamed __or__",
        )
        for function in (is_kind, are_alike):
            self.assertEqual(function.__module__, programs.__name__)


class Kinds(unittest.TestCase):
    def test_right_ones(self):
        for room in (1, 2):
            for sure in (True, False):
                self.assertIs(is_kind(("a", "b", room, sure)), True)
        self.assertIs(is_kind(("abcdefgh", "a", 1, True)), True)

    def test_parts(self):
        right = ("a", "b", 1, True)
        for at in range(4):
            for value in EVERY:
                kind = right[:at] + (value,) + right[at + 1:]
                expected = repr(value) in [("'save'", "'note'", "'send'", "'a'"), ("'save'", "'note'", "'send'"),
                                           ("1",), ("True", "False")][at]
                self.assertIs(is_kind(kind), expected, kind)

    def test_room(self):
        for room in (0, 3, -1, True, False, "1", None):
            self.assertIs(is_kind(("a", "b", room, True)), False)

    def test_other_values(self):
        for value in EVERY:
            self.assertIs(is_kind(value), False)
        wrong = (
            ("a", "a", 1, True), ("a", "b", 1), ("a", "b", 1, True, True), ["a", "b", 1, True], "abcd",
            ("a", "b", 1, 1), ("a", "b", 1, 0), ("a", "b", 1, None), ("a", "B", 1, True), ("abcdefghi", "b", 1, True),
        )
        for value in wrong:
            self.assertIs(is_kind(value), False, value)


class Making(ProgramCase):
    def test_numbers_of_processes(self):
        for many in range(7):
            machines = {name: IDLE for name in "abcdef"[:many]}
            if 2 <= many <= 4:
                self.assertEqual(len(Program(machines, {})), many)
            else:
                self.assert_no_program(lambda: Program(machines, {}))

    def test_numbers_of_kinds(self):
        for many in range(7):
            kinds = {name: ("a", "b", 1, True) for name in "klmnop"[:many]}
            if many <= 4:
                self.assertEqual(len(Program({"a": IDLE, "b": IDLE}, kinds).kinds), many)
            else:
                self.assert_no_program(lambda: Program({"a": IDLE, "b": IDLE}, kinds))

    def test_names_are_words(self):
        right = {"a": IDLE, "b": IDLE}
        kind = ("a", "b", 1, True)
        for name in (0, True, None, "", "A", "a b", "abcdefghi", (), ("a",), "a\n", 10 ** 99):
            self.assert_raises(InvalidWord(), lambda: Program({"a": IDLE, "b": IDLE, name: IDLE}, {}))
            self.assert_raises(InvalidWord(), lambda: Program(right, {name: kind}))
            self.assert_raises(InvalidWord(), lambda: Program({name: 0}, {name: 0}))

    def test_a_wrong_word_comes_first(self):
        for value in without(EVERY, {}, {0: 0}, {(0, 0): ()}):
            self.assert_raises(InvalidWord(), lambda: Program(value, {0: ("a", "b", 1, True)}))
            self.assert_raises(InvalidWord(), lambda: Program({"a": IDLE, 1: IDLE}, value))
        self.assert_raises(InvalidWord(), lambda: Program({"a": 0, "": IDLE}, {"a": 0}))

    def test_other_values(self):
        for value in EVERY:
            if value in ({0: 0}, {(0, 0): ()}):
                self.assert_raises(InvalidWord(), lambda: Program(value, {}))
                self.assert_raises(InvalidWord(), lambda: Program({"a": IDLE, "b": IDLE}, value))
                continue
            self.assert_no_program(lambda: Program(value, {}))
            self.assert_no_program(lambda: Program(value, value))
            if value != {}:
                self.assert_no_program(lambda: Program({"a": IDLE, "b": IDLE}, value))
            if not isinstance(value, Machine):
                self.assert_no_program(lambda: Program({"a": IDLE, "b": value}, {}))
            self.assert_no_program(lambda: Program({"a": IDLE, "b": IDLE}, {"k": value}))

    def test_one_name_for_both(self):
        self.assert_no_program(lambda: Program({"a": IDLE, "b": IDLE}, {"a": ("a", "b", 1, True)}))
        self.assert_no_program(lambda: Program({"a": IDLE, "b": IDLE, "c": IDLE}, {"c": ("a", "b", 1, True)}))

    def test_kinds_stand_between_processes_that_are_there(self):
        for kind in (("a", "c", 1, True), ("c", "a", 1, True), ("c", "d", 1, True), ("a", "k", 1, True)):
            self.assert_no_program(lambda: Program({"a": IDLE, "b": IDLE}, {"k": kind}))

    def test_machines_have_their_own_letters_only(self):
        kinds = {"k": ("a", "b", 1, True), "l": ("b", "c", 2, False)}
        right = {"a": sender("k"), "b": Machine.free(("take", "k"), ("send", "l")), "c": taker("l")}
        self.assertEqual(Program(right, kinds).processes, ("a", "b", "c"))
        wrong = (
            ("a", taker("k")), ("a", sender("l")), ("b", sender("k")), ("b", taker("l")), ("c", sender("k")),
            ("c", taker("k")), ("c", sender("l")), ("a", sender("m")), ("b", taker("m")), ("a", sender("a")),
            ("a", Machine((WORK,), (("send", "l", 0, 0, None),))),
        )
        for name, machine in wrong:
            self.assert_no_program(lambda: Program({**right, name: machine}, kinds))

    def test_the_order_of_the_dicts_has_no_effect(self):
        for program in EVERY_PROGRAM:
            machines = {name: program[name] for name in program.processes[::-1]}
            kinds = {name: program[name] for name in program.kinds[::-1]}
            other = Program(machines, kinds)
            self.assertEqual(other, program)
            self.assertEqual((other.processes, other.kinds), (program.processes, program.kinds))

    def test_what_was_passed_stays_and_is_not_shared(self):
        machines, kinds = {"b": taker("k"), "a": sender("k")}, {"k": ("a", "b", 1, True)}
        before = list(machines.items()), list(kinds.items())
        program = Program(machines, kinds)
        self.assertEqual((list(machines.items()), list(kinds.items())), before)
        machines.clear()
        kinds["k"] = ("b", "a", 1, True)
        self.assertEqual((program.processes, program["k"]), (("a", "b"), ("a", "b", 1, True)))
        wrong = {"a": [IDLE], "b": IDLE}
        before = copy.deepcopy(wrong)
        self.assert_no_program(lambda: Program(wrong, {}))
        self.assertEqual(repr(list(wrong)), repr(list(before)))


class Properties(ProgramCase):
    def test_names(self):
        self.assertEqual([RING.processes, RING.kinds], [("a", "b", "c"), ("ab", "bc", "ca")])
        self.assertEqual([ALONE.processes, ALONE.kinds], [("a", "b"), ()])

    def test_talk(self):
        for program in EVERY_PROGRAM:
            self.assertEqual(program.talk.marks, ())
            self.assertEqual(program.talk.kinds, program.kinds)
            for name in program.processes:
                self.assertEqual(
                    program.talk[name].states,
                    tuple(tuple(move[:4] + (None,) for move in state) for state in program[name].states),
                )
        self.assertEqual(TALK.talk.talk, TALK.talk)
        self.assertEqual(len(TALK.marks), 2)

    def test_marks(self):
        self.assertEqual(RING.marks, (
            ("a", 0, 1, "save"), ("b", 0, 0, "note"), ("b", 1, 0, "save"), ("c", 0, 1, "save"),
        ))
        self.assertEqual(ALONE.marks, ())
        for program in EVERY_PROGRAM:
            self.assertEqual(program.talk.with_keeping(*program.marks), program)

    def test_properties_are_not_assigned(self):
        self.assert_fixed(TALK, "processes kinds talk marks")

    def test_texts(self):
        self.assertEqual(str(RING), "program of 3 processes, 3 kinds")
        self.assertEqual(str(ALONE), "program of 2 processes, 0 kinds")


class Reading(ProgramCase):
    def test_names(self):
        for program in EVERY_PROGRAM:
            for name in program.processes:
                self.assertIsInstance(program[name], Machine)
                self.assertIs(name in program, True)
            for name in program.kinds:
                self.assertIs(is_kind(program[name]), True)
                self.assertIs(name in program, True)

    def test_other_values(self):
        for value in without(EVERY, "a"):
            self.assert_raises(UnknownName(value), lambda: TALK[value])
            self.assertIs(value in TALK, False)
        self.assert_raises(UnknownName("p"), lambda: TALK["p"])

    def test_no_iteration(self):
        self.assert_no_iteration(TALK)
        self.assert_no_iteration(ALONE)


class Comparing(ProgramCase):
    def test_equal_parts(self):
        for program in EVERY_PROGRAM:
            for other in EVERY_PROGRAM:
                self.assert_equal(program, other, program is other)
            self.assert_equal(program, program.with_keeping(), True)

    def test_one_part_is_another(self):
        self.assert_equal(LOSSY, LOSSY.with_kind("x", ("s", "t", 1, False)), False)
        self.assert_equal(LOSSY, LOSSY.with_kind("x", ("s", "t", 2, True)), False)
        self.assert_equal(LOSSY, LOSSY.priced(1, "s"), False)
        self.assert_equal(LOSSY, LOSSY.renamed({"x": "z"}), False)
        self.assert_equal(Program({"a": IDLE, "b": IDLE}, {}), Program({"a": IDLE, "c": IDLE}, {}), False)

    def test_every_other_value(self):
        for value in without(EVERY, TALK):
            self.assert_equal(TALK, value, False)


class WithParts(ProgramCase):
    def test_other_machine(self):
        other = ONCE.with_machine("q", IDLE)
        self.assertEqual([other["q"], other["p"], other.kinds], [IDLE, ONCE["p"], ("m",)])
        self.assertEqual(len(ONCE["q"]), 3)

    def test_other_kind(self):
        other = ONCE.with_kind("m", ("p", "q", 2, False))
        self.assertEqual([other["m"], ONCE["m"]], [("p", "q", 2, False), ("p", "q", 1, True)])
        self.assertEqual(other.with_kind("m", ("p", "q", 1, True)), ONCE)

    def test_unknown_names(self):
        for value in EVERY + ("m", "A"):
            self.assert_raises(UnknownName(value), lambda: ONCE.with_machine(value, IDLE))
            self.assert_raises(UnknownName(value), lambda: ONCE.with_machine(value, 0))
        for value in EVERY + ("p", "q"):
            self.assert_raises(UnknownName(value), lambda: ONCE.with_kind(value, ("p", "q", 1, True)))
            self.assert_raises(UnknownName(value), lambda: ONCE.with_kind(value, 0))

    def test_no_such_program(self):
        for value in EVERY:
            if not isinstance(value, Machine):
                self.assert_no_program(lambda: ONCE.with_machine("p", value))
            self.assert_no_program(lambda: ONCE.with_kind("m", value))
        self.assert_no_program(lambda: ONCE.with_machine("q", sender("m")))
        self.assert_no_program(lambda: ONCE.with_machine("p", sender("x")))
        self.assert_no_program(lambda: ONCE.with_kind("m", ("q", "p", 1, True)))
        self.assert_no_program(lambda: ONCE.with_kind("m", ("p", "r", 1, True)))


class Priced(ProgramCase):
    def test_all_or_some(self):
        for price in range(10):
            every, one = ONCE.priced(price), ONCE.priced(price, "q")
            self.assertEqual({move[3] for name in "pq" for _, _, move in every[name].moves()}, {price})
            self.assertEqual(one["p"], ONCE["p"])
            self.assertEqual(one["q"], ONCE["q"].priced(price))
            self.assertEqual(ONCE.priced(price, "q", "p"), every)
            self.assertEqual(ONCE.priced(price, "q", "q"), one)

    def test_names_come_first(self):
        for value in EVERY + ("m",):
            self.assert_raises(UnknownName(value), lambda: ONCE.priced(1, value))
            self.assert_raises(UnknownName(value), lambda: ONCE.priced(10, "p", value))
        self.assert_raises(UnknownName("m"), lambda: ONCE.priced(None, "m", "x"))

    def test_wrong_prices_also_without_moves(self):
        idle = Program({"a": IDLE, "b": IDLE}, {})
        for value in OTHERS + (-1, 10):
            for program, names in ((ONCE, ()), (ONCE, ("q",)), (idle, ()), (idle, ("a",))):
                self.assert_no_program(lambda: program.priced(value, *names))
        self.assertEqual(idle.priced(9), idle)


class WithKeeping(ProgramCase):
    def test_other_keepings(self):
        other = LOSSY.with_keeping(("t", 0, 0, "save"), ("s", 0, 1, None), ("s", 0, 2, "note"))
        self.assertEqual(other.marks, (("s", 0, 2, "note"), ("t", 0, 0, "save"), ("t", 0, 1, "save")))
        self.assertEqual(LOSSY.with_keeping(), LOSSY)
        self.assertEqual(other.talk, LOSSY.talk)
        self.assertEqual(len(LOSSY.marks), 4)

    def test_wrong_marks(self):
        right = ("a", 0, 1, "note")
        self.assertEqual(TALK.with_keeping(right).marks, (("a", 0, 0, "save"), right, ("b", 0, 1, "save")))
        for value in EVERY:
            self.assert_no_operation(lambda: TALK.with_keeping(value))
            self.assert_no_operation(lambda: TALK.with_keeping(right, value))
        for at in range(4):
            for value in without(EVERY, *["a", 0, 1, "save", "note", None][:3 if at < 3 else 6]):
                self.assert_no_operation(lambda: TALK.with_keeping(right[:at] + (value,) + right[at + 1:]))
        wrong = (
            ("ask", 0, 1, "save"), ("a", 1, 0, "save"), ("a", 0, 2, "save"), ("a", 0, 0, "note"), ("b", 0, 1, "note"),
            ("a", False, 1, "save"), ("a", 0, True, "save"), ["a", 0, 1, "save"], ("a", 0, 1), ("a", 0, 1, "save", 0),
            ("a", -1, 0, "save"), ("a", 0, -1, "save"),
        )
        for value in wrong:
            self.assert_no_operation(lambda: TALK.with_keeping(value))

    def test_two_marks_for_one_move(self):
        self.assert_no_operation(lambda: TALK.with_keeping(("a", 0, 1, "save"), ("a", 0, 1, "note")))
        self.assert_no_operation(lambda: TALK.with_keeping(("a", 0, 1, "save"), ("b", 0, 1, None), ("a", 0, 1, "save")))


class Renamed(ProgramCase):
    def test_other_names(self):
        other = ONCE.renamed({"p": "q", "q": "m", "m": "p"})
        self.assertEqual([other.processes, other.kinds, other["p"]], [("m", "q"), ("p",), ("q", "m", 1, True)])
        self.assertEqual(other["q"][1, 0], ("send", "p", 2, 3, "save"))
        self.assertEqual(other["m"][0, 1], ("take", "p", 2, 4, None))
        self.assertEqual(other["q"][0, 0], ("output", None, 1, 2, None))
        self.assertEqual(other.renamed({"q": "p", "m": "q", "p": "m"}), ONCE)
        self.assertEqual([ONCE.renamed({}), ONCE.renamed({"p": "p"})], [ONCE, ONCE])

    def test_wrong_dicts(self):
        for value in without(EVERY, {}):
            self.assert_no_operation(lambda: ONCE.renamed(value))
        for value in without(EVERY, "a", "save", "note", "send"):
            self.assert_no_operation(lambda: ONCE.renamed({"p": value}))
        for name in ("x", "P", 0, None, ("p",), True):
            self.assert_no_operation(lambda: ONCE.renamed({name: "z"}))
            self.assert_no_operation(lambda: ONCE.renamed({"p": "y", name: "z"}))

    def test_two_would_have_one_name(self):
        for names in (
            {"p": "q"}, {"p": "m"}, {"m": "p"}, {"p": "x", "q": "x"}, {"p": "x", "m": "x"}, {"p": "q", "q": "q"},
        ):
            self.assert_no_operation(lambda: ONCE.renamed(names))

    def test_what_was_passed_stays(self):
        names = {"q": "z", "p": "y"}
        ONCE.renamed(names)
        self.assertEqual(list(names.items()), [("q", "z"), ("p", "y")])
        self.assertEqual(ONCE.processes, ("p", "q"))


class SideBySide(ProgramCase):
    def test_both(self):
        both = ONCE | TALK
        self.assertEqual([both.processes, both.kinds], [("a", "b", "p", "q"), ("ask", "m", "tell")])
        self.assertEqual(both, TALK | ONCE)
        for name in both.processes + both.kinds:
            self.assertEqual(both[name], TALK[name] if name in TALK else ONCE[name])
        self.assertEqual([len(ONCE), len(TALK)], [2, 2])

    def test_no_program(self):
        for value in without(EVERY, TALK):
            self.assert_no_operation(lambda: ONCE | value)

    def test_a_name_in_common(self):
        self.assert_no_operation(lambda: TALK | TALK)
        self.assert_no_operation(lambda: TALK | ONCE.renamed({"p": "a"}))
        self.assert_no_operation(lambda: TALK | ONCE.renamed({"m": "ask"}))
        self.assert_no_operation(lambda: TALK | ONCE.renamed({"m": "a"}))
        self.assert_no_operation(lambda: TALK | ONCE.renamed({"p": "tell"}))

    def test_too_many(self):
        self.assert_no_operation(lambda: RING | ONCE)
        self.assert_no_operation(lambda: ONCE | RING)
        kinds = {name: ("x", "y", 1, True) for name in ("k", "l", "n")}
        pair = Program({"x": IDLE, "y": IDLE}, kinds)
        self.assertEqual(len((pair | ONCE).kinds), 4)
        self.assert_no_operation(lambda: pair | TALK)


class Alike(ProgramCase):
    def test_keepings_do_not_count(self):
        for rng, program in draws(30):
            self.assertIs(are_alike(program, program.talk), True)
            self.assertIs(are_alike(program.talk, program), True)
        self.assertIs(are_alike(TALK, ONCE), False)
        self.assertIs(are_alike(TALK, TALK.priced(2)), False)
        self.assertIs(are_alike(LOSSY, LOSSY.with_kind("y", ("t", "s", 2, True))), False)

    def test_no_programs(self):
        for value in without(EVERY, TALK):
            self.assert_no_program(lambda: are_alike(value, TALK))
            self.assert_no_program(lambda: are_alike(TALK, value))


if __name__ == "__main__":
    unittest.main()
