import copy
import unittest

from fallsback.errors import InvalidNumber, InvalidOperation, InvalidProgram, InvalidRun, UnknownName
from fallsback.run import histories
from fallsback.run.histories import History, behind_failure, is_history
from fallsback.run.lines import lost
from fallsback.run.runs import Run
from tests import slow
from tests.cases import ErrorCase
from tests.drawn import draw_failed, draw_history, draw_run, draws
from tests.examples import run_examples
from tests.samples import CALM, EVERY_PROGRAM, LOSSY, NAMES, ONCE, RING, TALK
from tests.values import EVERY, OTHERS, without

EXAMPLE = """
>>> once = History(ONCE, ("p", 0), ("p", 0), ("q", 0), ("q",), ("q", 1), ("q",))
>>> [once.run.steps, once.falls, once.losses, str(once)]
[(), ({'p': 0, 'q': 1}, {'p': 5, 'q': 4}), {'p': 5, 'q': 5}, 'history of 6 events, 2 failures']
>>> [once.first(4).run.steps, is_history(ONCE, (("p", 0), ("p",), ("p", 0))), is_history(ONCE, (("p", "q"),)), is_history(ONCE, (("q", "p"),))]
[(('p', 0), ('p', 0)), True, True, False]
>>> behind_failure(Run(ONCE, ("p", 0), ("p", 0), ("q", 1)), "q").steps
()
"""
EVENTS = (("p", 0), ("p", 0), ("q", 0), ("q",), ("q", 1), ("q",))


def lived(program, events):
    """The steps that are left and the losses of each failure, looked at slowly; None if it is no history."""
    steps, falls = (), []
    for event in events:
        if all(isinstance(name, str) for name in event):
            falls.append(slow.lost(program, slow.play(program, steps)[2], event))
            steps = slow.left(program, steps, event)
        elif slow.play(program, steps + (event,)) is None:
            return None
        else:
            steps += (event,)
    return steps, falls


class Example(ErrorCase):
    def test_example(self):
        run_examples(self, EXAMPLE, {
            **NAMES, "Run": Run, "History": History, "is_history": is_history, "behind_failure": behind_failure,
        })

    def test_all_stands_where_it_is_listed(self):
        self.assert_listed(
            histories, History,
            "__init__ of program events run falls losses longer first __len__ __iter__ __eq__ __str__",
        )
        for function in (behind_failure, is_history):
            self.assertEqual(function.__module__, histories.__name__)


class Left(ErrorCase):
    def test_a_take_gives_way_to_a_vanishing(self):
        run = Run(LOSSY, ("s", 0), ("s", 1), ("t", 0), ("t", 0), ("s", 0), ("t", 1))
        saved = run.program.with_keeping(("t", 0, 0, None), ("t", 0, 1, None))
        left = behind_failure(Run(saved, *run), "t")
        self.assertEqual(left.steps, (("s", 0), ("s", 1), ("x", 0), ("s", 0)))
        self.assertEqual(left.letters("x"), ((0, 2), (3, None)))

    def test_the_vanishing_of_an_unsent_letter_is_left_out(self):
        run = Run(LOSSY, ("s", 0), ("s", 1), ("s", 0), ("x", 1), ("x", 0))
        self.assertEqual(behind_failure(run.first(4), "s").steps, (("s", 0), ("s", 1)))
        self.assertEqual(behind_failure(run, "s").steps, (("s", 0), ("s", 1), ("x", 0)))
        self.assertEqual(behind_failure(run, "t"), run)

    def test_nothing_is_handed_over_twice(self):
        run = Run(ONCE, ("p", 0), ("p", 0), ("q", 1))
        self.assertEqual([behind_failure(run, "p"), behind_failure(run, "q")], [run, Run(ONCE)])
        self.assertEqual(run.steps, (("p", 0), ("p", 0), ("q", 1)))

    def test_what_is_left_of_drawn_runs_is_a_run(self):
        for rng, program in draws(100, seed=3):
            run = draw_run(rng, program, rng.randint(0, 16))
            failed = draw_failed(rng, program)
            left = behind_failure(run, *failed)
            self.assertEqual(left.steps, slow.left(program, run.steps, failed))
            self.assertIsNotNone(slow.play(program, left.steps))
            self.assertEqual(left.program, program)

    def test_several_at_once_leave_what_they_leave_one_after_the_other(self):
        for rng, program in draws(100, seed=4, processes=(3, 4)):
            run = draw_run(rng, program, rng.randint(0, 16))
            failed = draw_failed(rng, program)
            left = run
            for name in failed:
                left = behind_failure(left, name)
            self.assertEqual(behind_failure(run, *failed), left)
            self.assertEqual(behind_failure(run, *failed[::-1]), left)

    def test_errors(self):
        for value in [other for other in EVERY if not isinstance(other, Run)]:
            self.assert_raises(InvalidRun(0), lambda: behind_failure(value))
            self.assert_raises(InvalidRun(0), lambda: behind_failure(value, 0))
        run = Run(TALK, ("a", 0))
        for value in without(EVERY, "a") + ["ask"]:
            self.assert_raises(UnknownName(value), lambda: behind_failure(run, "a", "a", value))
        self.assert_raises(InvalidOperation(), lambda: behind_failure(run))
        self.assert_raises(InvalidOperation(), lambda: behind_failure(run, "b", "b"))


class IsHistory(ErrorCase):
    def test_steps_are_possible_in_what_is_left(self):
        cases = (
            (ONCE, EVENTS, True), (ONCE, EVENTS[:3] + (("q", 0),), False), (ONCE, EVENTS[:4] + (("q", 0),), True),
            (ONCE, (("p", 0), ("p", 0), ("q", 1), ("q",), ("q", 1)), False),
            (ONCE, (("p", 0), ("p", 0), ("q", 1), ("p",), ("q", 1)), False),
            (TALK, (("a",), ("a", "b"), ("b",)), True), (TALK, (("b", 0), ("b",)), False),
            (LOSSY, (("s", 0), ("s", 1), ("t", 1), ("t", 0), ("t",), ("x", 0)), False), (TALK, (), True),
        )
        for program, events, expected in cases:
            self.assertIs(is_history(program, events), expected, events)

    def test_wrong_failures(self):
        wrong = (
            (), ("b", "a"), ("a", "a"), ("a", "ask"), ("c",), ["a"], "a", ("a", "b", "c"), ("a", 0, "b"), (0,),
            (("a",),), ("ask",), ("a", None), ("a", True), {"a": 0},
        )
        for event in wrong:
            self.assertIs(is_history(TALK, (event,)), False, event)
            self.assertIs(is_history(TALK, (("a", 0), event, ("b", 0))), False, event)

    def test_other_values(self):
        for value in EVERY:
            self.assertIs(is_history(TALK, value), value == ())
            self.assertIs(is_history(TALK, (value,)), repr(value) in ("('a', 0)", "('a',)"))
        for value in ([("a", 0)], [], {("a", 0): 0}, "a", (["a", 0],), (("a", False),)):
            self.assertIs(is_history(TALK, value), False)

    def test_no_program(self):
        for value in without(EVERY, TALK):
            self.assert_raises(InvalidProgram(), lambda: is_history(value, ()))
            self.assert_raises(InvalidProgram(), lambda: is_history(value, 0))

    def test_drawn_histories(self):
        for rng, program in draws(60, seed=5):
            events, run = draw_history(rng, program, rng.randint(0, 14))
            self.assertIs(is_history(program, events), True)
            self.assertEqual(History(program, *events).run, run)
            self.assertEqual(lived(program, events)[0], run.steps)
            steps = [(name, number) for name in program.processes + program.kinds for number in range(4)]
            for event in steps:
                self.assertIs(is_history(program, events + (event,)), event in run.possible)


class Histories(ErrorCase):
    def test_making(self):
        once = History(ONCE, *EVENTS)
        self.assertEqual(History.of(ONCE, EVENTS), once)
        self.assertEqual([once.program, once.events, len(once)], [ONCE, EVENTS, 6])
        self.assertEqual([History(ONCE).events, History(ONCE).falls, History(ONCE).losses], [(), (), {"p": 0, "q": 0}])
        self.assertEqual(str(History(ONCE)), "history of 0 events, 0 failures")

    def test_no_program(self):
        for value in without(EVERY, TALK):
            self.assert_raises(InvalidProgram(), lambda: History(value))
            self.assert_raises(InvalidProgram(), lambda: History(value, 0))
            self.assert_raises(InvalidProgram(), lambda: History.of(value, 0))

    def test_no_history(self):
        for value in EVERY:
            if repr(value) not in ("('a', 0)", "('a',)"):
                self.assert_raises(InvalidOperation(), lambda: History(TALK, value))
                self.assert_raises(InvalidOperation(), lambda: History(TALK).longer(value))
                self.assert_raises(InvalidOperation(), lambda: History.of(TALK, (("a",), value)))
            if value != ():
                self.assert_raises(InvalidOperation(), lambda: History.of(TALK, value))
        self.assert_raises(InvalidOperation(), lambda: History.of(TALK, [("a", 0)]))
        self.assert_raises(InvalidOperation(), lambda: History(ONCE, *EVENTS[:3], ("q", 0)))

    def test_drawn_histories(self):
        for rng, program in draws(60, seed=6):
            events, run = draw_history(rng, program, rng.randint(0, 14))
            history = History(program, *events)
            _, falls = lived(program, events)
            self.assertEqual(repr(history.falls), repr(tuple(falls)))
            self.assertEqual(history.losses, {name: sum(fall[name] for fall in falls) for name in program.processes})
            self.assertEqual(list(history.losses), list(program.processes))
            self.assertEqual(str(history), f"history of {len(events)} events, {len(falls)} failures")
            many = rng.randint(0, len(events))
            first = history.first(many)
            self.assertEqual(first, History(program, *events[:many]))
            self.assertEqual(first.longer(*events[many:]), history)
            longer = first.longer(*events[many:])
            self.assertEqual(longer.run, run)
            for less in range(len(events) + 1):
                self.assertEqual([longer.first(less).run, longer.first(less).falls],
                                 [History(program, *events[:less]).run, History(program, *events[:less]).falls])
            self.assertEqual(first.events, events[:many])

    def test_falls_are_losses_of_the_run_ahead(self):
        once = History(ONCE, *EVENTS)
        self.assertEqual(once.falls[0], lost(once.first(3).run, "q"))
        self.assertEqual(once.falls[1], lost(once.first(5).run, "q"))

    def test_longer_and_first(self):
        history = History(RING, ("a", 0), ("a", "c"), ("a", 0))
        longer = history.longer(("b", 0), ("b",))
        self.assertEqual(longer.events, (("a", 0), ("a", "c"), ("a", 0), ("b", 0), ("b",)))
        self.assertEqual([len(history), history.longer(), history.first(3)], [3, history, history])
        for value in OTHERS + (-1, 4, 5):
            self.assert_raises(InvalidNumber(value), lambda: history.first(value))
        self.assert_raises(InvalidOperation(), lambda: history.longer(("a", 1)))
        self.assert_raises(InvalidOperation(), lambda: history.longer(("b", 0), ("c", "a")))
        self.assertEqual(history.events, (("a", 0), ("a", "c"), ("a", 0)))

    def test_iteration_yields_the_events(self):
        once = History(ONCE, *EVENTS)
        self.assertEqual([list(once), tuple(once), [event for event in once]], [list(EVENTS), EVENTS, list(EVENTS)])

    def test_comparing(self):
        for program in EVERY_PROGRAM:
            self.assert_equal(History(program), History(program), True)
        self.assert_equal(History(TALK, ("a", 0)), History(CALM, ("a", 0)), False)
        self.assert_equal(History(TALK, ("a", 0)), History(TALK, ("a", 0), ("a",)), False)
        self.assert_equal(History(TALK, ("a",)), History(TALK, ("b",)), False)
        history = History(TALK, ("a", 0))
        for value in EVERY + (history.events, list(history.events), str(history), history.run):
            self.assert_equal(history, value, False)

    def test_nothing_is_shared(self):
        once = History(ONCE, *EVENTS)
        before = copy.deepcopy([once.falls, once.losses])
        once.falls[0].clear()
        once.losses["p"] = 100
        self.assertEqual([once.falls, once.losses], before)
        self.assert_fixed(once, "program events run falls losses")

    def test_what_was_passed_stays(self):
        events = [("a", 0), ["a"]]
        before = copy.deepcopy(events)
        self.assert_raises(InvalidOperation(), lambda: History(TALK, *events))
        self.assertIs(is_history(TALK, events), False)
        self.assertEqual(events, before)


if __name__ == "__main__":
    unittest.main()
