import unittest

from fallsback.errors import InvalidOperation, InvalidProgram, InvalidRun, TooMany, UnknownName
from fallsback.rows import standings as module
from fallsback.rows.standings import (
    first_standing, is_touch_paper, run_to, standing_of, standings, steps_at, touch_paper, touches,
)
from fallsback.run.lines import thrown_back
from fallsback.run.runs import Run, each_run
from tests import slow
from tests.cases import ErrorCase
from tests.drawn import draw_history, draw_run, draws, small_draws
from tests.examples import run_examples
from tests.samples import ALONE, CALM, EVERY_PROGRAM, FULL, LOSSY, NAMES, ONCE, OVER, RING, TALK
from tests.values import EVERY, without

EXAMPLE = """
>>> [len(standings(ONCE)), touches(ONCE), touch_paper(ONCE, "p", "q")[0], touches(CALM)]
[7, (('q', 'p'),), 'never', ()]
>>> first_standing(ONCE)
((0, 0), (0,), (True, True), (('p', ('p',), ()), ('q', ('q',), ())))
>>> standing_of(Run(ONCE, ("p", 0), ("p", 0)))
((2, 0), (1,), (True, True), (('p', ('p',), ()), ('q', ('q',), ()), (('m', 0), ('p',), (('m', 0),))))
>>> is_touch_paper(ONCE, "q", "p", ("run", (("p", 0), ("p", 0), ("q", 1))))
True
"""
FUNCTIONS = (
    first_standing, standing_of, standings, steps_at, run_to, touches, touch_paper, is_touch_paper,
)
SMALL = (TALK, CALM, ONCE, LOSSY, ALONE)


def told(world):
    return tuple(sorted(world, key=repr))


class Example(ErrorCase):
    def test_example(self):
        run_examples(self, EXAMPLE, {**NAMES, "Run": Run, **{one.__name__: one for one in FUNCTIONS}})

    def test_all_stands_where_it_is_listed(self):
        self.assertEqual(repr(module.MAX_STANDINGS), "2000")
        for function in FUNCTIONS:
            self.assertEqual(function.__module__, module.__name__)


class Standings(ErrorCase):
    def test_standings_behind_runs(self):
        for rng, program in draws(60, seed=12):
            run = draw_run(rng, program, rng.randint(0, 16))
            self.assertEqual(repr(standing_of(run)), repr(slow.standing(program, run.steps)))
            self.assertEqual(repr(first_standing(program)), repr(slow.standing(program, ())))
            left = draw_history(rng, program, 14)[1]
            self.assertEqual(repr(standing_of(left)), repr(slow.standing(program, left.steps)))

    def test_all_standings_by_all_runs(self):
        for program in (TALK, ONCE, CALM, ALONE):
            found, many, newest = {}, 0, True
            while newest and many <= 12:
                before = len(found)
                for run in each_run(program, many):
                    found[standing_of(run)] = True
                newest, many = len(found) > before, many + 1
            self.assertFalse(newest)
            self.assertEqual(repr(standings(program)), repr(told(found)))

    def test_all_standings_of_drawn_programs(self):
        for rng, program, world in small_draws(40, seed=13):
            found = standings(program)
            self.assertEqual(repr(found), repr(told(world)))
            for _ in range(5):
                self.assertIn(standing_of(draw_run(rng, program, 20)), found)
                self.assertIn(standing_of(draw_history(rng, program, 12)[1]), found)

    def test_steps_at_standings(self):
        for _, program, world in small_draws(25, seed=14):
            for standing in told(world)[:20]:
                expected = tuple((step, later) for step, later, _ in world[standing])
                self.assertEqual(repr(steps_at(program, standing)), repr(expected))

    def test_shortest_runs_lead_to_standings(self):
        for _, program, world in small_draws(25, seed=15):
            near = {first_standing(program): 0}
            queue = list(near)
            for here in queue:
                for _, later, _ in world[here]:
                    if later not in near:
                        near[later] = near[here] + 1
                        queue.append(later)
            for standing in told(world)[:20]:
                steps = run_to(program, standing)
                self.assertEqual(slow.standing(program, steps), standing)
                self.assertEqual(len(steps), near[standing])

    def test_values_that_are_no_standings(self):
        first = first_standing(TALK)
        near = [
            list(first), first[:3], first + ((),), ((0, False),) + first[1:], first[:2] + ((1, 1),) + first[3:],
            ((0, 1),) + first[1:], first_standing(ONCE), repr(first), (first,), first[:3] + (list(first[3]),),
            first[:3] + (first[3][::-1],), first[:1] + ((0, False),) + first[2:], {0: first},
        ]
        for value in EVERY + tuple(near):
            self.assert_raises(InvalidOperation(), lambda: steps_at(TALK, value))
            self.assert_raises(InvalidOperation(), lambda: run_to(TALK, value))
        self.assertEqual([run_to(TALK, first), len(steps_at(TALK, first))], [(), 2])

    def test_no_programs_and_no_runs(self):
        for value in without(EVERY, TALK):
            for call in (
                lambda: first_standing(value), lambda: standings(value), lambda: steps_at(value, 0),
                lambda: touches(value), lambda: run_to(value, 0), lambda: touch_paper(value, 0, 0), lambda: is_touch_paper(value, 0, 0, 0),
            ):
                self.assert_raises(InvalidProgram(), call)
            if not isinstance(value, Run):
                self.assert_raises(InvalidRun(0), lambda: standing_of(value))
        self.assert_raises(InvalidRun(0), lambda: standing_of(TALK))

    def test_programs_and_runs_stay(self):
        program, run = TALK.with_keeping(), Run(TALK, ("a", 0))
        standings(program), touches(program), touch_paper(program, "a", "b"), standing_of(run)
        self.assertEqual([program, run, standings(program)], [TALK, Run(TALK, ("a", 0)), standings(TALK)])


class TooManyStandings(ErrorCase):
    def test_the_border(self):
        self.assertEqual([len(slow.explore(FULL)), len(slow.explore(OVER))], [2000, 2001])
        self.assertEqual(len(standings(FULL)), 2000)
        self.assert_raises(TooMany(2000), lambda: standings(OVER))

    def test_each_function(self):
        steps = (("a", 0),)
        for call in (
            lambda: standings(OVER), lambda: steps_at(OVER, first_standing(OVER)), lambda: run_to(OVER, 0),
            lambda: steps_at(OVER, 0), lambda: run_to(OVER, first_standing(OVER)), lambda: touches(OVER),
            lambda: touch_paper(OVER, "a", "b"),
        ):
            self.assert_raises(TooMany(2000), call)
        self.assertEqual(first_standing(OVER), standing_of(Run(OVER)))
        self.assertEqual(standing_of(Run(OVER, *steps)), slow.standing(OVER, steps))

    def test_other_errors_come_first(self):
        for call in (touch_paper, lambda *rest: is_touch_paper(*rest, 0)):
            self.assert_raises(UnknownName("k"), lambda: call(OVER, "k", "x"))
            self.assert_raises(UnknownName("x"), lambda: call(OVER, "a", "x"))
            self.assert_raises(InvalidOperation(), lambda: call(OVER, "a", "a"))

    def test_papers_without_standings_are_judged(self):
        saved = Run(OVER, ("a", 1), ("a", 0), ("b", 0))
        self.assertEqual(thrown_back(saved, "b"), (1, 2))
        self.assertIs(is_touch_paper(OVER, "b", "a", ("run", saved.steps)), True)
        self.assertIs(is_touch_paper(OVER, "b", "a", ("run", saved.steps[:2])), False)
        self.assertIs(is_touch_paper(OVER, "a", "c", ("never", told(slow.explore(OVER)))), False)
        self.assertIs(is_touch_paper(FULL, "a", "c", ("never", standings(FULL))), True)


class Touches(ErrorCase):
    def test_by_all_runs(self):
        for program in (TALK, ONCE, CALM, ALONE):
            found = set()
            for many in range(7):
                for run in each_run(program, many):
                    for failed in program.processes:
                        found.update((failed, run[at][0]) for at in thrown_back(run, failed) if run[at][0] != failed)
            self.assertEqual(touches(program), tuple(sorted(found)))

    def test_by_drawn_runs(self):
        for rng, program, world in small_draws(40, seed=16):
            entries = {entry for standing in world for entry in slow.entries(standing) if isinstance(entry[0], str)}
            expected = tuple(sorted(entry for entry in entries if entry[0] != entry[1]))
            self.assertEqual(touches(program), expected)
            for _ in range(5):
                run = draw_history(rng, program, 16)[1]
                for failed in program.processes:
                    back = {run[at][0] for at in thrown_back(run, failed)} - {failed}
                    self.assertLessEqual({(failed, process) for process in back}, set(expected))

    def test_papers_show_them(self):
        for _, program, world in small_draws(25, seed=17, most=40):
            for failed in program.processes:
                for process in program.processes:
                    if failed == process:
                        continue
                    paper = touch_paper(program, failed, process)
                    self.assertEqual(paper[0], "run" if (failed, process) in touches(program) else "never")
                    self.assertIs(is_touch_paper(program, failed, process, paper), True)
                    self.assertIs(slow.is_touch_paper(program, failed, process, paper), True)

    def test_names(self):
        for call in (touch_paper, lambda *rest: is_touch_paper(*rest, ())):
            for value in without(EVERY, "a") + ["ask"]:
                self.assert_raises(UnknownName(value), lambda: call(TALK, value, 0))
                self.assert_raises(UnknownName(value), lambda: call(TALK, "b", value))
            self.assert_raises(InvalidOperation(), lambda: call(TALK, "b", "b"))


class TouchPapers(ErrorCase):
    def assert_judged(self, program, failed, process, value):
        expected = slow.is_touch_paper(program, failed, process, value)
        before = repr(value)
        self.assertIs(is_touch_paper(program, failed, process, value), expected, value)
        self.assertEqual(repr(value), before)

    def test_values_near_papers(self):
        for program in SMALL:
            for failed, process in ((program.processes[0], program.processes[1]), program.processes[1::-1]):
                for word, shown in [touch_paper(program, failed, process), ("never", standings(program)), ("run", ())]:
                    near = [shown, list(shown), shown[:-1], shown[1:], shown[::-1]]
                    near += [shown + shown[-1:], shown[:1] + shown]
                    for at, part in enumerate(shown):
                        near += [shown[:at] + shown[at + 1:], shown[:at] + (list(part),) + shown[at + 1:]]
                    if word == "run":
                        near += [tuple((name, bool(number)) for name, number in shown)]
                        near += [shown + (step,) for step in Run(program, *shown).possible]
                    for other in near:
                        self.assert_judged(program, failed, process, (word, other))
                    for other in ([word, shown], (word, shown, ()), (word,), shown, (word + "s", shown), (shown, word)):
                        self.assert_judged(program, failed, process, other)

    def test_truth_values_are_no_integers(self):
        first = (("a", 0), ("b", 0), ("b", 1), ("a", 1))
        self.assertIs(is_touch_paper(TALK, "a", "b", ("run", first)), True)
        self.assertIs(is_touch_paper(TALK, "a", "b", ("run", first[:3] + (("a", True),))), False)
        found = standings(CALM)
        states = (((0, False),) + found[0][1:],)
        clean = (found[0][:2] + ((1, True),) + found[0][3:],)
        self.assertEqual([states + found[1:], clean + found[1:]], [found, found])
        self.assertIs(is_touch_paper(CALM, "a", "b", ("never", found)), True)
        for other in (states, clean):
            self.assertIs(is_touch_paper(CALM, "a", "b", ("never", other + found[1:])), False)

    def test_any_run_will_do(self):
        for program, failed, process in ((TALK, "a", "b"), (LOSSY, "s", "t"), (ONCE, "q", "p")):
            for many in range(6):
                for run in each_run(program, many):
                    self.assert_judged(program, failed, process, ("run", run.steps))

    def test_other_values(self):
        for value in EVERY:
            for other in (value, ("run", value), ("never", value), (value, ()), ("run", (value,)), ("never", (value,))):
                self.assertIs(is_touch_paper(TALK, "a", "b", other), False)
                self.assertIs(is_touch_paper(CALM, "a", "b", other), False)
        self.assertIs(is_touch_paper(RING, "b", "a", ("run", 5)), False)


if __name__ == "__main__":
    unittest.main()
