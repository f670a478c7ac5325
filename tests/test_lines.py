import copy
import unittest

from fallsback.errors import InvalidLine, InvalidNumber, InvalidOperation, InvalidRun, UnknownName
from fallsback.run import lines
from fallsback.run.lines import (
    arrows, each_sound, fall_line, is_clean, is_line, is_sound, led_to, lost, piece_at, places, thrown_back,
)
from fallsback.run.runs import Run
from tests import slow
from tests.cases import ErrorCase
from tests.drawn import draw_failed, draw_run, draws
from tests.examples import run_examples
from tests.samples import ALONE, EVERY_PROGRAM, LOSSY, NAMES, ONCE, RING, TALK
from tests.values import EVERY, OTHERS, without

EXAMPLE = """
>>> run = Run(TALK, ("a", 0), ("b", 0), ("b", 1), ("a", 1), ("a", 0), ("b", 0))
>>> [places(run, "a"), places(run, "b"), is_clean(run, "b"), piece_at(run, 4)]
[(0, 1, 3), (0, 2), False, ('a', 1)]
>>> [fall_line(run, "b"), thrown_back(run, "b"), lost(run, "b"), lost(run, "a")]
[{'a': 0, 'b': 0}, (0, 1, 2, 3, 4, 5), {'a': 3, 'b': 3}, {'a': 0, 'b': 0}]
>>> [led_to(run, "a", 3), led_to(run, "b", 2), is_sound(run, {"a": 1, "b": 2})]
[(('a', 3),), (('a', 0), ('a', 1), ('a', 3), ('b', 0), ('b', 2)), False]
"""
FUNCTIONS = (
    places, is_clean, piece_at, is_line, is_sound, fall_line, thrown_back, lost, each_sound, arrows, led_to,
)
BY_FAILED = (fall_line, thrown_back, lost)
# The second letter vanishes, the first and the third one are taken, behind a note that is a place and one that is none.
LOST = (("s", 0), ("s", 0), ("x", 1), ("t", 0), ("t", 0), ("s", 1), ("s", 0), ("t", 0), ("t", 0), ("s", 0))


def drawn_runs(many, most=12, **sizes):
    for rng, program in draws(many, seed=2, **sizes):
        yield rng, program, draw_run(rng, program, rng.randint(0, most))


class Example(ErrorCase):
    def test_example(self):
        run_examples(self, EXAMPLE, {**NAMES, "Run": Run, **{one.__name__: one for one in FUNCTIONS}})

    def test_functions_stand_in_their_file(self):
        for function in FUNCTIONS:
            self.assertEqual(function.__module__, lines.__name__)


class Places(ErrorCase):
    def test_notes_are_places_of_clean_processes_only(self):
        note, plain = ("take", "m", 0, 1, "note"), ("take", "m", 0, 1, None)
        program = ONCE.with_machine("q", ONCE["q"].with_state(0, note, plain, ("work", None, 0, 1, None)))
        program = program.with_machine("p", ONCE["p"].with_state(0, ("send", "m", 0, 1, None)))
        program = program.with_kind("m", ("p", "q", 2, True))
        send = ("p", 0)
        noted = Run(program, send, ("q", 2), ("q", 0), send, ("q", 0), send, ("q", 1), send, ("q", 0), ("q", 2))
        self.assertEqual(places(noted, "q"), (0, 2, 3))
        self.assertEqual([is_clean(noted.first(many), "q") for many in (0, 2, 3, 5, 7, 9, 10)],
                         [True, True, True, True, False, False, False])
        self.assertEqual(places(noted, "p"), (0,))
        self.assertIs(is_clean(noted, "p"), True)

    def test_each_save_is_a_place(self):
        run = Run(LOSSY, *LOST)
        self.assertEqual([places(run, "s"), places(run, "t")], [(0, 3), (0, 1, 3)])
        self.assertEqual([places(Run(ALONE), "a"), places(Run(ALONE, ("a", 0)), "a")], [(0,), (0,)])

    def test_drawn_runs(self):
        for _, program, run in drawn_runs(60, most=20):
            told = slow.play(program, run.steps)[2]
            of_steps, _ = slow.pieces(program, told)
            for name in program.processes:
                self.assertEqual(places(run, name), tuple(slow.places(told, name)))
                self.assertIs(is_clean(run, name), slow.is_clean(told, name))
            for at, piece in enumerate(of_steps):
                if piece is None:
                    self.assert_raises(InvalidOperation(), lambda: piece_at(run, at))
                else:
                    self.assertEqual(piece_at(run, at), piece)


class Errors(ErrorCase):
    def test_no_run(self):
        for value in [other for other in EVERY if not isinstance(other, Run)]:
            for call in (
                lambda: places(value, 0), lambda: is_clean(value, 0), lambda: piece_at(value, None),
                lambda: is_line(value, {}), lambda: is_sound(value, 0), lambda: fall_line(value),
                lambda: thrown_back(value, "a", "a"), lambda: lost(value, 0), lambda: next(each_sound(value, 0)),
                lambda: arrows(value), lambda: led_to(value, 0, 0),
            ):
                self.assert_raises(InvalidRun(0), call)

    def test_no_process(self):
        run = Run(TALK, ("a", 0))
        for value in without(EVERY, "a") + ["ask"]:
            for call in (
                lambda: places(run, value), lambda: is_clean(run, value), lambda: led_to(run, value, 9),
                lambda: next(each_sound(run, "a", "a", value)),
            ):
                self.assert_raises(UnknownName(value), call)

    def test_failed(self):
        run = Run(TALK, ("a", 0))
        for call in BY_FAILED:
            for value in without(EVERY, "a") + ["tell"]:
                self.assert_raises(UnknownName(value), lambda: call(run, value))
                self.assert_raises(UnknownName(value), lambda: call(run, "a", "a", value, "d"))
            self.assert_raises(InvalidOperation(), lambda: call(run))
            self.assert_raises(InvalidOperation(), lambda: call(run, "a", "b", "a"))
        self.assert_raises(InvalidOperation(), lambda: next(each_sound(run, "b", "b")))

    def test_pieces(self):
        run = Run(LOSSY, *LOST)
        self.assert_raises(InvalidOperation(), lambda: piece_at(run, 2))
        self.assertEqual([piece_at(run, at) for at in (0, 1, 3, 4, 5, 6, 9)], [
            ("s", 0), ("s", 0), ("t", 0), ("t", 1), ("s", 0), ("s", 3), ("s", 3),
        ])
        for value in without(EVERY, 0, 1, 5, 6, 9) + [-10, len(LOST)]:
            self.assert_raises(InvalidNumber(value), lambda: piece_at(run, value))

    def test_no_place(self):
        run = Run(LOSSY, *LOST)
        for value in OTHERS + (1, 2, 4, 5, 6, -1):
            self.assert_raises(InvalidNumber(value), lambda: led_to(run, "s", value))
        self.assert_raises(InvalidNumber(False), lambda: led_to(run, "t", False))


class Lines(ErrorCase):
    def test_places_and_the_present(self):
        run = Run(LOSSY, *LOST)
        for first in range(-1, 8):
            for second in range(-1, 8):
                self.assertIs(is_line(run, {"s": first, "t": second}), first in (0, 3, 5) and second in (0, 1, 3, 4))
                self.assertIs(is_line(run, {"t": second, "s": first}), first in (0, 3, 5) and second in (0, 1, 3, 4))

    def test_other_values(self):
        run = Run(LOSSY, *LOST)
        for value in EVERY:
            self.assertIs(is_line(run, value), False)
            self.assert_raises(InvalidLine(), lambda: is_sound(run, value))
            line = {"s": 0, "t": value}
            self.assertIs(is_line(run, line), repr(value) in "01", value)
            if repr(value) not in "01":
                self.assert_raises(InvalidLine(), lambda: is_sound(run, line))
        for value in ({"s": 0}, {"s": 0, "t": 0, "x": 0}, {"s": 0, "x": 0}, {"s": False, "t": 0}, {"s": 0, "t": True},
                      (("s", 0), ("t", 0)), {"s": 0, "t": 0, 0: 0}, {"s": 1, "t": 0}):
            self.assertIs(is_line(run, value), False)
            self.assert_raises(InvalidLine(), lambda: is_sound(run, value))

    def test_what_was_passed_stays(self):
        run, line = Run(LOSSY, *LOST), {"t": 0, "s": 0}
        before = copy.deepcopy(line)
        self.assertEqual([is_line(run, line), is_sound(run, line)], [True, True])
        self.assertEqual([list(line.items()), run], [list(before.items()), Run(LOSSY, *LOST)])

    def test_sound_lines_of_drawn_runs(self):
        for rng, program, run in drawn_runs(60):
            told = slow.play(program, run.steps)[2]
            every = slow.lines(program, told)
            for line in every:
                self.assertIs(is_line(run, line), True)
                self.assertIs(is_sound(run, line), slow.is_sound(program, told, line))
            for failed in ((), (program.processes[0],), draw_failed(rng, program)):
                expected = [line for line in slow.lines(program, told, failed) if slow.is_sound(program, told, line)]
                found = list(each_sound(run, *failed))
                self.assertEqual(repr(found), repr(expected))
                values = [tuple(line.values()) for line in found]
                self.assertEqual(values, sorted(values))

    def test_each_sound_is_a_generator(self):
        generator = each_sound(Run(RING))
        self.assertIs(iter(generator), generator)
        self.assertEqual([next(generator), list(generator)], [{"a": 0, "b": 0, "c": 0}, []])
        far = each_sound(Run(TALK, *[("a", 0), ("b", 0), ("b", 1), ("a", 1)] * 200), "a")
        self.assertEqual(next(far), {"a": 0, "b": 0})
        for call in (lambda: each_sound(0), lambda: each_sound(Run(TALK), 0), lambda: each_sound(Run(TALK), "a", "a")):
            call()

    def test_given_lines_are_not_shared(self):
        found = []
        for line in each_sound(Run(LOSSY, *LOST)):
            found.append(dict(line))
            line.clear()
        self.assertEqual(found, list(each_sound(Run(LOSSY, *LOST))))


class Falling(ErrorCase):
    def test_the_latest_of_all_sound_lines(self):
        for rng, program, run in drawn_runs(80):
            told = slow.play(program, run.steps)[2]
            failures = [(name,) for name in program.processes] + [draw_failed(rng, program) for _ in range(2)]
            for failed in failures:
                line = fall_line(run, *failed)
                self.assertEqual(repr(line), repr(slow.fall_line(program, told, failed)))
                self.assertEqual(line, list(each_sound(run, *failed))[-1])
                self.assertEqual(thrown_back(run, *failed), slow.thrown_back(program, told, failed))
                self.assertEqual(repr(lost(run, *failed)), repr(slow.lost(program, told, failed)))

    def test_the_order_of_the_failed_has_no_effect(self):
        for _, program, run in drawn_runs(30, processes=(3, 4)):
            for call in BY_FAILED:
                self.assertEqual(call(run, *program.processes), call(run, *program.processes[::-1]))

    def test_several_throw_back_what_any_of_them_does(self):
        for _, program, run in drawn_runs(60, processes=(3, 4)):
            alone = {name: set(thrown_back(run, name)) for name in program.processes}
            for one in program.processes:
                for other in program.processes:
                    if one != other:
                        self.assertEqual(set(thrown_back(run, one, other)), alone[one] | alone[other])

    def test_by_arrows(self):
        for rng, program, run in drawn_runs(60):
            told = slow.play(program, run.steps)[2]
            of_steps, every = slow.pieces(program, told)
            self.assertEqual(arrows(run), tuple(sorted(slow.arrows(program, told))))
            for piece in every:
                self.assertEqual(led_to(run, *piece), tuple(sorted(slow.led_to(program, told, piece))))
            failed = draw_failed(rng, program)
            back = {piece for name in failed for piece in led_to(run, name, places(run, name)[-1])}
            self.assertEqual(thrown_back(run, *failed), tuple(at for at, own in enumerate(of_steps) if own in back))

    def test_nothing_is_thrown_back_without_open_steps(self):
        for program in EVERY_PROGRAM:
            run = Run(program)
            self.assertEqual(fall_line(run, *program.processes), {name: 0 for name in program.processes})
            self.assertEqual([thrown_back(run, program.processes[0]), arrows(run)], [(), ()])
            self.assertEqual(lost(run, program.processes[0]), {name: 0 for name in program.processes})

    def test_a_letter_that_can_vanish(self):
        run = Run(LOSSY, ("s", 0), ("t", 0), ("s", 0))
        self.assertEqual(arrows(run), ((("s", 0), ("t", 0)), (("t", 0), ("t", 1))))
        self.assertEqual([fall_line(run, "t"), fall_line(run, "s")], [{"s": 2, "t": 1}, {"s": 0, "t": 0}])
        sure = Run(LOSSY.with_kind("x", ("s", "t", 2, True)), *run)
        self.assertIn((("t", 0), ("s", 0)), arrows(sure))

    def test_further_keepings_throw_back_nothing_more(self):
        for rng, program, run in drawn_runs(60):
            moves = [(name, state, number, move) for name in program.processes
                     for state, number, move in program[name].moves() if move[4] != "save"]
            name, state, number, move = rng.choice(moves) if moves else (None, 0, 0, None)
            if name is None:
                continue
            keeping = "note" if move[0] == "take" and move[4] is None and rng.random() < 0.5 else "save"
            other = Run(program.with_keeping((name, state, number, keeping)), *run)
            for failed in program.processes:
                self.assertLessEqual(set(thrown_back(other, failed)), set(thrown_back(run, failed)))

    def test_long_runs(self):
        run = Run(TALK, *[("a", 0), ("b", 0), ("b", 1), ("a", 1)] * 3000)
        self.assertEqual(lost(run, "a"), {"a": 6000, "b": 6000})
        self.assertEqual(len(arrows(run)), 2 * 6000 + 2 * 3000)


if __name__ == "__main__":
    unittest.main()
