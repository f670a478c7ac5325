import copy
import itertools
import unittest

from fallsback.errors import InvalidNumber, InvalidOperation, InvalidProgram, InvalidRun, UnknownName
from fallsback.run import runs
from fallsback.run.runs import Run, each_run
from tests import slow
from tests.cases import ErrorCase
from tests.drawn import draw_run, draws
from tests.examples import run_examples
from tests.samples import ALONE, CALM, EVERY_PROGRAM, LOSSY, NAMES, ONCE, RING, TALK
from tests.values import EVERY, OTHERS, without

EXAMPLE = """
>>> run = Run(TALK, ("a", 0), ("b", 0), ("b", 1))
>>> [run.states, run.lanes, run.possible, run.letters("ask"), run.own("b"), str(run)]
[{'a': 0, 'b': 0}, {'ask': (), 'tell': (2,)}, (('a', 0), ('a', 1)), ((0, 1),), (1, 2), 'run of 3 steps, 1 letters under way']
>>> [run.longer(("a", 1)).lanes["tell"], len(run.first(1)), len(list(each_run(TALK, 3)))]
[(), 1, 8]
>>> run.longer(("a", 1), ("b", 0))
raises InvalidRun(4)
"""
LOST = (("s", 0), ("s", 0), ("x", 1), ("t", 0), ("t", 0), ("s", 1), ("s", 0))


class Example(ErrorCase):
    def test_example(self):
        run_examples(self, EXAMPLE, {**NAMES, "Run": Run, "each_run": each_run})

    def test_all_stands_where_it_is_listed(self):
        self.assert_listed(
            runs, Run,
            "__init__ of program steps states lanes possible own letters moves_of __getitem__ __len__ __iter__ __eq__ "
            "__str__ longer first __add__",
        )
        self.assertEqual(each_run.__module__, runs.__name__)


class Making(ErrorCase):
    def test_no_program(self):
        for value in without(EVERY, TALK):
            self.assert_raises(InvalidProgram(), lambda: Run(value))
            self.assert_raises(InvalidProgram(), lambda: Run(value, 0))
            self.assert_raises(InvalidProgram(), lambda: Run.of(value, ()))
            self.assert_raises(InvalidProgram(), lambda: Run.of(value, []))

    def test_of_takes_a_tuple(self):
        steps = (("a", 0), ("b", 0))
        self.assertEqual(Run.of(TALK, steps), Run(TALK, *steps))
        self.assertEqual(Run.of(TALK, ()), Run(TALK))
        for value in EVERY + (list(steps), dict(steps)):
            if value != ():
                self.assert_raises(InvalidRun(0), lambda: Run.of(TALK, value))

    def test_values_that_are_no_steps(self):
        for value in EVERY:
            if value == ("a", 0):
                continue
            self.assert_raises(InvalidRun(0), lambda: Run(TALK, value))
            self.assert_raises(InvalidRun(2), lambda: Run(TALK, ("a", 0), ("b", 0), value, ("b", 1)))
            self.assert_raises(InvalidRun(1), lambda: Run.of(TALK, (("a", 0), value, 0)))
        for value in without(EVERY, 0):
            self.assert_raises(InvalidRun(0), lambda: Run(TALK, ("a", value)))
        for value in without(EVERY, "a"):
            self.assert_raises(InvalidRun(0), lambda: Run(TALK, (value, 0)))
        for value in (("a", 0, 0), ["a", 0], ("a", False), ("c", 0), ("ask", 0), ("tell", 0)):
            self.assert_raises(InvalidRun(0), lambda: Run(TALK, value))

    def test_steps_that_are_not_possible(self):
        wrong = (
            (TALK, (("a", 1),), 0), (TALK, (("a", 0), ("a", 0)), 1), (TALK, (("a", 0), ("b", 0), ("b", 0)), 2),
            (TALK, (("a", 0), ("ask", 0)), 1), (ONCE, (("p", 0), ("p", 1)), 1), (ONCE, (("q", 0), ("q", 0)), 1),
            (LOSSY, (("s", 0), ("x", 1)), 1), (LOSSY, (("x", 0),), 0), (LOSSY, (("s", 0), ("x", 0), ("x", 0)), 2),
            (LOSSY, (("s", 0), ("s", 0), ("s", 0)), 2), (LOSSY, (("t", 1), ("y", 0)), 1),
            (LOSSY, (("s", 0), ("x", 0), ("t", 0)), 2), (LOSSY, (("s", 0), ("x", True)), 1),
        )
        for program, steps, index in wrong:
            self.assert_raises(InvalidRun(index), lambda: Run(program, *steps))
            self.assert_raises(InvalidRun(index), lambda: Run.of(program, steps + (("q", 9),)))
            self.assertEqual(len(Run(program, *steps[:index])), index)

    def test_what_was_passed_stays(self):
        steps = [("a", 0), ["b", 0]]
        before = copy.deepcopy(steps)
        self.assert_raises(InvalidRun(1), lambda: Run(TALK, *steps))
        self.assertEqual(steps, before)


class Properties(ErrorCase):
    def test_a_letter_that_vanishes(self):
        run = Run(LOSSY, *LOST)
        self.assertEqual(run.program, LOSSY)
        self.assertEqual(run.steps, LOST)
        self.assertEqual(run.states, {"s": 0, "t": 0})
        self.assertEqual(run.first(4).states, {"s": 0, "t": 1})
        self.assertEqual(run.lanes, {"x": (6,), "y": ()})
        self.assertEqual(run.letters("x"), ((0, 3), (1, 2), (6, None)))
        self.assertEqual(run.possible, (("s", 0), ("s", 1), ("t", 0), ("t", 1), ("x", 0)))
        self.assertEqual([run.own("s"), run.own("t")], [(0, 1, 5, 6), (3, 4)])
        self.assertEqual(run.moves_of("t"), (LOSSY["t"][0, 0], LOSSY["t"][1, 0]))
        self.assertEqual(str(run), "run of 7 steps, 1 letters under way")

    def test_the_letter_behind_moves_up(self):
        run = Run(LOSSY, ("s", 0), ("s", 0), ("x", 0), ("s", 0))
        self.assertEqual(run.lanes["x"], (1, 3))
        self.assertEqual(run.letters("x"), ((0, 2), (1, None), (3, None)))
        self.assertEqual(run.longer(("t", 0)).letters("x"), ((0, 2), (1, 4), (3, None)))

    def test_an_empty_run(self):
        for program in EVERY_PROGRAM:
            run = Run(program)
            self.assertEqual([run.steps, len(run)], [(), 0])
            self.assertEqual(run.states, {name: 0 for name in program.processes})
            self.assertEqual(run.lanes, {kind: () for kind in program.kinds})
        self.assertEqual(str(Run(ALONE)), "run of 0 steps, 0 letters under way")

    def test_drawn_runs(self):
        for rng, program in draws(60):
            run = draw_run(rng, program, rng.randint(0, 20))
            states, lanes, told = slow.play(program, run.steps)
            self.assertEqual(repr(run.states), repr(states))
            self.assertEqual(repr(run.lanes), repr({kind: tuple(lanes[kind]) for kind in program.kinds}))
            self.assertEqual(run.possible, slow.nexts(program, run.steps))
            for name in program.processes:
                self.assertEqual(run.moves_of(name), tuple(slow.own_moves(told, name)))
                self.assertEqual(run.own(name), tuple(at for at, step in enumerate(run.steps) if step[0] == name))
            for kind in program.kinds:
                gone = {ended: at for at, (_, _, _, _, ended) in enumerate(told) if ended is not None}
                sends = [sent for _, _, move, sent, _ in told if sent is not None and move[1] == kind]
                self.assertEqual(run.letters(kind), tuple((sent, gone.get(sent)) for sent in sends))

    def test_unknown_names(self):
        run = Run(TALK, ("a", 0))
        for value in without(EVERY, "a") + ["ask", "c"]:
            self.assert_raises(UnknownName(value), lambda: run.own(value))
            self.assert_raises(UnknownName(value), lambda: run.moves_of(value))
        for value in EVERY + ("b", "asks"):
            self.assert_raises(UnknownName(value), lambda: run.letters(value))

    def test_nothing_is_shared(self):
        run = Run(LOSSY, *LOST)
        run.states["s"] = 5
        run.lanes.clear()
        self.assertEqual([run.states, run.lanes], [{"s": 0, "t": 0}, {"x": (6,), "y": ()}])
        self.assert_fixed(run, "program steps states lanes possible")


class Reading(ErrorCase):
    def test_steps(self):
        run = Run(LOSSY, *LOST)
        self.assertEqual([run[at] for at in range(7)], list(LOST))
        for value in without(EVERY, 0, 1, 5, 6) + [7, -1, -7]:
            self.assert_raises(InvalidNumber(value), lambda: run[value])
        self.assert_raises(InvalidNumber(0), lambda: Run(TALK)[0])

    def test_iteration_yields_the_steps(self):
        run = Run(LOSSY, *LOST)
        self.assertEqual([list(run), tuple(run), list(iter(run))], [list(LOST), LOST, list(LOST)])
        self.assertIn(("x", 1), run)
        self.assertNotIn(("x", 0), run)

    def test_comparing(self):
        run = Run(TALK, ("a", 0), ("b", 0))
        self.assert_equal(run, Run.of(TALK, (("a", 0), ("b", 0))), True)
        self.assert_equal(run, Run(CALM, ("a", 0), ("b", 0)), False)
        self.assert_equal(run, Run(TALK, ("a", 0)), False)
        self.assert_equal(run, Run(TALK, ("a", 0), ("b", 0), ("a", 0)), False)
        self.assert_equal(Run(TALK), Run(ONCE), False)
        for value in EVERY + (run.steps, list(run.steps), str(run)):
            self.assert_equal(run, value, False)


class Longer(ErrorCase):
    def test_steps_behind(self):
        run = Run(TALK, ("a", 0))
        self.assertEqual(run.longer(("b", 0), ("b", 1)), Run(TALK, ("a", 0), ("b", 0), ("b", 1)))
        self.assertEqual(run.longer(), run)
        self.assertEqual(run.steps, (("a", 0),))

    def test_wrong_steps(self):
        run = Run(TALK, ("a", 0), ("b", 0))
        for value in EVERY:
            if value != ("a", 0):
                self.assert_raises(InvalidRun(2), lambda: run.longer(value))
                self.assert_raises(InvalidRun(3), lambda: run.longer(("b", 1), value))
        self.assert_raises(InvalidRun(2), lambda: run.longer(("b", 0)))
        self.assert_raises(InvalidRun(4), lambda: run.longer(("a", 0), ("b", 0), ("b", 0)))
        self.assertEqual(run.steps, (("a", 0), ("b", 0)))

    def test_first_steps(self):
        run = Run(LOSSY, *LOST)
        for many in range(8):
            self.assertEqual(run.first(many), Run(LOSSY, *LOST[:many]))
        self.assertEqual(len(run), 7)
        for value in OTHERS + (-1, 8, 10):
            self.assert_raises(InvalidNumber(value), lambda: run.first(value))

    def test_one_run_behind_another(self):
        one, other = Run(LOSSY, *LOST[:3]), Run(LOSSY, ("s", 0), ("x", 0), ("s", 1))
        self.assertEqual((one + other).steps, one.steps + other.steps)
        self.assertEqual([one + Run(LOSSY), Run(LOSSY) + one], [one, one])
        self.assertEqual([len(one), len(other)], [3, 3])
        self.assert_raises(InvalidRun(3), lambda: Run(TALK, ("a", 0), ("b", 0), ("a", 0)) + Run(TALK, ("a", 0)))
        self.assert_raises(InvalidRun(2), lambda: Run(ONCE, ("q", 0)) + Run(ONCE, ("p", 0), ("q", 0)))

    def test_no_run_of_the_same_program(self):
        run = Run(TALK, ("a", 0))
        for value in without(EVERY, *[other for other in EVERY if isinstance(other, Run)]):
            self.assert_raises(InvalidOperation(), lambda: run + value)
        for other in (Run(CALM), Run(CALM, ("a", 0)), Run(ONCE)):
            self.assert_raises(InvalidOperation(), lambda: run + other)


class EachRun(ErrorCase):
    def test_ascending_and_complete(self):
        for program, most in ((TALK, 6), (ONCE, 5), (LOSSY, 4), (RING, 4), (ALONE, 12)):
            steps = [(name, number) for name in program.processes + program.kinds for number in range(3)]
            for many in range(min(most, 4) + 1):
                found = [run.steps for run in each_run(program, many)]
                every = itertools.product(sorted(steps), repeat=many)
                self.assertEqual(found, [one for one in every if slow.play(program, one) is not None])
            found = list(each_run(program, most))
            self.assertEqual([run.steps for run in found], sorted({run.steps for run in found}))
            self.assertEqual({len(run) for run in found} - {most}, set())

    def test_without_runs_of_this_length(self):
        self.assertEqual(len(list(each_run(ONCE, 0))), 1)
        self.assertEqual([len(list(each_run(ONCE, many))) for many in (3, 4, 12)], [4, 0, 0])
        self.assertEqual([run.steps for run in each_run(ALONE, 12)], [(("a", 0),) * 12])

    def test_errors_come_with_the_first_element(self):
        for value in without(EVERY, TALK):
            generator = each_run(value, 13)
            self.assert_raises(InvalidProgram(), lambda: next(generator))
        for value in OTHERS + (-1, 13, 14):
            generator = each_run(TALK, value)
            self.assert_raises(InvalidNumber(value), lambda: next(generator))

    def test_a_generator_that_does_not_run_ahead(self):
        generator = each_run(RING, 12)
        self.assertIs(iter(generator), generator)
        self.assertEqual(next(generator).steps[0], ("a", 0))


if __name__ == "__main__":
    unittest.main()
