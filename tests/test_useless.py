import unittest

from fallsback.errors import InvalidNumber, InvalidOperation, InvalidProgram, InvalidRun, TooMany, UnknownName
from fallsback.later import useless as module
from fallsback.later.useless import is_lead, is_useless, is_useless_run, lead, useless_places, useless_run
from fallsback.run.lines import arrows, each_sound, places
from fallsback.run.runs import Run, each_run
from tests import slow
from tests.cases import ErrorCase
from tests.drawn import draw_history, draw_run, draws, small_draws
from tests.examples import run_examples
from tests.samples import ALONE, CALM, EVERY_PROGRAM, FULL, LOSSY, NAMES, ONCE, OVER, RING, TALK
from tests.values import EVERY, without

EXAMPLE = """
>>> run = Run(TALK, ("a", 0), ("b", 0), ("b", 1), ("a", 1), ("a", 0), ("b", 0))
>>> [useless_places(run), is_useless(run, "a", 3), useless_places(run.first(5)), is_lead(run, "b", 2, (("b", 2), ("a", 1), ("b", 0)))]
[{'a': (1,), 'b': (2,)}, False, {'a': (1,), 'b': ()}, True]
>>> [is_useless_run(TALK, "b", 0, 1, run.steps), is_useless_run(TALK, "b", 0, 1, run.steps[:5]), useless_run(ONCE, "p", 1, 0)]
[True, False, None]
"""
FUNCTIONS = (is_useless, useless_places, lead, is_lead, useless_run, is_useless_run)
NO_RUNS = [value for value in EVERY if not isinstance(value, Run)]
RUN = Run(TALK, ("a", 0), ("b", 0), ("b", 1), ("a", 1), ("a", 0), ("b", 0))
OF_RUN = (is_useless, lead, lambda *rest: is_lead(*rest, ()))
OF_MOVE = (useless_run, lambda *rest: is_useless_run(*rest, ()))


def useless_by_lines(run):
    """The places that no sound line has, looked at slowly."""
    program = run.program
    told = slow.play(program, run.steps)[2]
    sound = [line for line in slow.lines(program, told) if slow.is_sound(program, told, line)]
    return {name: tuple(place for place in slow.places(told, name) if place and all(line[name] != place for line in sound))
            for name in program.processes}


def makes_useless(program, process, state, number, steps):
    """Whether some place of the run with these steps is useless that this move made."""
    told = slow.play(program, steps)[2]
    useless = useless_by_lines(Run(program, *steps))[process]
    here = 0
    for at, (name, own, move, _, _) in enumerate(told):
        if name == process:
            if (here, steps[at][1]) == (state, number) and own + 1 in useless:
                return True
            here = move[2]
    return False


class Example(ErrorCase):
    def test_example(self):
        run_examples(self, EXAMPLE, {**NAMES, "Run": Run, **{one.__name__: one for one in FUNCTIONS}})

    def test_functions_stand_in_their_file(self):
        for function in FUNCTIONS:
            self.assertEqual(function.__module__, module.__name__)


class Places(ErrorCase):
    def test_against_all_sound_lines(self):
        many = 0
        for rng, program in draws(120, seed=50):
            run = draw_run(rng, program, rng.randint(0, 18))
            expected = useless_by_lines(run)
            found = useless_places(run)
            self.assertEqual(repr(found), repr(expected))
            for name in program.processes:
                for place in places(run, name):
                    self.assertIs(is_useless(run, name, place), place in expected[name])
                    many += place in expected[name]
        self.assertGreater(many, 20)

    def test_against_the_generator_of_lines(self):
        for rng, program in draws(40, seed=51, processes=(3, 4), kinds=(2, 4)):
            run = draw_history(rng, program, 20)[1]
            sound = list(each_sound(run))
            for name in program.processes:
                expected = tuple(place for place in places(run, name) if all(line[name] != place for line in sound))
                self.assertEqual(useless_places(run)[name], expected)

    def test_a_useless_place_stays_useless(self):
        for rng, program in draws(40, seed=52):
            run = draw_run(rng, program, 10)
            longer = run
            for _ in range(6):
                if longer.possible:
                    longer = longer.longer(rng.choice(longer.possible))
            for name in program.processes:
                self.assertLessEqual(set(useless_places(run)[name]), set(useless_places(longer)[name]))

    def test_the_first_place_is_never_useless(self):
        for program in EVERY_PROGRAM:
            for name in program.processes:
                self.assertIs(is_useless(Run(program), name, 0), False)
                self.assertIsNone(lead(Run(program), name, 0))
                self.assertIs(is_lead(Run(program), name, 0, ((name, 0),)), False)
        self.assertIs(is_useless(RUN, "a", 0), False)
        self.assertEqual(useless_places(Run(ALONE)), {"a": (), "b": ()})

    def test_long_runs(self):
        run = Run(TALK, *[("a", 0), ("b", 0), ("b", 1), ("a", 1)] * 2000)
        # Each take is of a letter that was sent in the piece ahead of the last place, and is sure.
        self.assertEqual(useless_places(run), {"a": places(run, "a")[1:], "b": places(run, "b")[1:-1]})


class Leads(ErrorCase):
    def test_leads_go_along_arrows(self):
        many = 0
        for rng, program in draws(120, seed=53):
            run = draw_run(rng, program, rng.randint(0, 18))
            told = slow.play(program, run.steps)[2]
            edges = slow.arrows(program, told)
            for name in program.processes:
                begins = places(run, name)
                for ahead, place in zip(begins, begins[1:]):
                    pieces = lead(run, name, place)
                    self.assertIs(pieces is not None, is_useless(run, name, place))
                    if pieces is not None:
                        many += 1
                        self.assertEqual([pieces[0], pieces[-1]], [(name, place), (name, ahead)])
                        self.assertLessEqual(set(zip(pieces, pieces[1:])), edges)
                        self.assertIs(is_lead(run, name, place, pieces), True)
                        self.assertEqual(lead(run, name, place), pieces)
        self.assertGreater(many, 20)

    def test_values_near_leads(self):
        found = {True: 0, False: 0}
        for rng, program in draws(60, seed=54):
            run = draw_run(rng, program, 16)
            edges = set(arrows(run))
            every = sorted({piece for edge in edges for piece in edge})
            for name in program.processes:
                begins = places(run, name)
                for ahead, place in zip(begins, begins[1:]):
                    pieces = lead(run, name, place) or ((name, place), (name, ahead))
                    for value in self.near(pieces, every):
                        before = repr(value)
                        expected = self.is_lead(edges, (name, ahead), (name, place), value)
                        self.assertIs(is_lead(run, name, place, value), expected, value)
                        self.assertEqual(repr(value), before)
                        found[expected] += 1
        self.assertGreater(min(found.values()), 20)

    def is_lead(self, edges, goal, start, value):
        if not isinstance(value, tuple) or not value or "True" in repr(value) or "False" in repr(value):
            return False
        if not all(isinstance(piece, tuple) for piece in value):
            return False
        return value[0] == start and value[-1] == goal and all(edge in edges for edge in zip(value, value[1:]))

    def near(self, pieces, every):
        for at, piece in enumerate(pieces):
            yield pieces[:at] + pieces[at + 1:]
            yield pieces[:at] + (piece,) + pieces[at:]
            yield pieces[:at] + (list(piece),) + pieces[at + 1:]
            yield pieces[:at] + ((piece[0], bool(piece[1])),) + pieces[at + 1:]
            yield pieces[:at] + (piece + (0,),) + pieces[at + 1:]
            for other in every:
                yield pieces[:at] + (other,) + pieces[at + 1:]
                yield pieces[:at] + (other,) + pieces[at:]
                yield pieces[:at] + (other, piece, other) + pieces[at:]
        yield from (pieces, list(pieces), pieces[::-1], pieces + pieces, (), None, pieces[0], (pieces,))

    def test_other_values(self):
        for value in EVERY:
            self.assertIs(is_lead(RUN, "a", 1, value), False)
            self.assertIs(is_lead(RUN, "a", 1, (value,)), False)
            self.assertIs(is_lead(RUN, "a", 1, (("a", 1), value, ("a", 0))), False)


class Runs(ErrorCase):
    def test_runs_with_useless_places(self):
        found = {True: 0, False: 0}
        for rng, program, _ in small_draws(50, seed=55):
            runs = [run.steps for many in range(5) for run in each_run(program, many)][:150]
            runs += [draw_run(rng, program, 16).steps for _ in range(10)]
            for process, state, number, _ in program.marks:
                steps = useless_run(program, process, state, number)
                found[steps is not None] += 1
                self.assertEqual(useless_run(program, process, state, number), steps)
                if steps is not None:
                    self.assertIs(is_useless_run(program, process, state, number, steps), True)
                    self.assertIs(makes_useless(program, process, state, number, steps), True)
                for other in runs:
                    expected = makes_useless(program, process, state, number, other)
                    self.assertIs(is_useless_run(program, process, state, number, other), expected)
                    self.assertTrue(steps is not None or not expected)
        self.assertGreater(min(found.values()), 20)

    def test_large_programs(self):
        for process, state, number, _ in FULL.marks:
            steps = useless_run(FULL, process, state, number)
            if steps is not None:
                self.assertIs(is_useless_run(FULL, process, state, number, steps), True)

    def test_known_programs(self):
        for program in (TALK, CALM):
            for mark in program.marks:
                steps = useless_run(program, *mark[:3])
                self.assertIs(makes_useless(program, *mark[:3], steps), True)
                self.assertIs(is_useless_run(program, *mark[:3], steps), True)
        self.assertEqual([useless_run(ONCE, *mark[:3]) for mark in ONCE.marks], [None])
        # A note that makes no place makes none that is useless.
        noted = Run(LOSSY, ("s", 0), ("t", 0), ("t", 0))
        self.assertIs(is_useless_run(LOSSY, "t", 0, 0, noted.steps), False)

    def test_values_near_runs(self):
        steps = useless_run(TALK, "b", 0, 1)
        for at, step in enumerate(steps):
            for value in (
                steps[:at] + steps[at + 1:], steps[:at] + (step,) + steps[at:], steps[:at] + (list(step),) + steps[at + 1:],
                steps[:at] + ((step[0], bool(step[1])),) + steps[at + 1:], steps[:at] + (("a",),) + steps[at:],
            ):
                expected = slow.is_steps(TALK, value) and makes_useless(TALK, "b", 0, 1, value)
                self.assertIs(is_useless_run(TALK, "b", 0, 1, value), expected)
        for value in EVERY + (list(steps), None, steps[0], (steps,), dict(enumerate(steps))):
            self.assertIs(is_useless_run(TALK, "b", 0, 1, value), False)

    def test_too_many_standings(self):
        mark = OVER.marks[0][:3]
        self.assert_raises(TooMany(2000), lambda: useless_run(OVER, *mark))
        self.assert_raises(TooMany(2000), lambda: useless_run(OVER, *mark))
        self.assertIs(is_useless_run(OVER, *mark, ()), False)
        self.assert_raises(InvalidOperation(), lambda: useless_run(OVER, "a", 0, 0))
        self.assert_raises(InvalidNumber(9), lambda: useless_run(OVER, "a", 9, 0))


class Errors(ErrorCase):
    def test_no_run(self):
        for value in NO_RUNS:
            self.assert_raises(InvalidRun(0), lambda: useless_places(value))
            for call in OF_RUN:
                self.assert_raises(InvalidRun(0), lambda: call(value, 0, "a"))

    def test_no_process(self):
        for value in without(EVERY, "a") + ["ask"]:
            for call in OF_RUN:
                self.assert_raises(UnknownName(value), lambda: call(RUN, value, 9))
            for call in OF_MOVE:
                self.assert_raises(UnknownName(value), lambda: call(TALK, value, 9, 9))

    def test_no_place(self):
        for call in OF_RUN:
            for value in without(EVERY, 0, 1) + [2, 4, True, False]:
                self.assert_raises(InvalidNumber(value), lambda: call(RUN, "a", value))

    def test_no_program(self):
        for value in without(EVERY, TALK):
            for call in OF_MOVE:
                self.assert_raises(InvalidProgram(), lambda: call(value, 0, 0, 0))

    def test_no_move(self):
        for call in OF_MOVE:
            for value in without(EVERY, 0):
                self.assert_raises(InvalidNumber(value), lambda: call(TALK, "a", value, 9))
            for value in without(EVERY, 0, 1):
                self.assert_raises(InvalidNumber(value), lambda: call(TALK, "a", 0, value))
            self.assert_raises(InvalidNumber(True), lambda: call(TALK, "a", True, 0))
            self.assert_raises(InvalidOperation(), lambda: call(TALK, "a", 0, 1))
            self.assert_raises(InvalidOperation(), lambda: call(RING, "a", 0, 0))
            self.assert_raises(InvalidOperation(), lambda: call(ONCE, "q", 0, 0))

    def test_what_was_passed_stays(self):
        run, program = RUN.longer(), TALK.with_keeping()
        useless_places(run)["a"] = ()
        lead(run, "a", 1), useless_run(program, "b", 0, 1)
        self.assertEqual([run, program, useless_places(run)], [RUN, TALK, {"a": (1,), "b": (2,)}])


if __name__ == "__main__":
    unittest.main()
