import copy
import unittest

from fallsback.base.machines import Machine
from fallsback.base.programs import Program
from fallsback.errors import InvalidNumber, InvalidRun, TooMany, UnknownName
from fallsback.later import outputs as module
from fallsback.later.layouts import Outlook
from fallsback.later.outputs import (
    held, is_recall, is_settled, is_unsettling, needed, recall, targets, unsettling,
)
from fallsback.later.scenes import Walk
from fallsback.rows.ledgers import holders
from fallsback.run.histories import behind_failure
from fallsback.run.lines import places, thrown_back
from fallsback.run.runs import Run
from tests import slow, slow_later
from tests.cases import ErrorCase
from tests.drawn import draw_history, draw_run, draws
from tests.examples import run_examples
from tests.samples import ALONE, CALM, EVERY_PROGRAM, FULL, LATER, LOSSY, NAMES, ONCE, RING, TALK
from tests.values import EVERY, without

EXAMPLE = """
>>> run, calm = Run(ONCE, ("p", 0), ("p", 0), ("q", 0)), Run(CALM, ("a", 0))
>>> [targets(run), held(run), needed(run), is_settled(run, 0)]
[{'p': (2,), 'q': (0,)}, {'p': (0, 2), 'q': (0,)}, {'p': (0, 2), 'q': (0,)}, False]
>>> [is_recall(run, "p", 0, (("q",), ("q", 1), ("q",))), is_unsettling(run, 0, (("q", 1), ("q",)))]
[True, False]
>>> [held(calm)["a"], needed(calm)["a"], recall(calm, "a", 0), is_settled(calm, 0)]
[(0, 1), (1,), None, True]
"""
FUNCTIONS = (targets, held, needed, recall, is_recall, is_settled, unsettling, is_unsettling)
NO_RUNS = [value for value in EVERY if not isinstance(value, Run)]
RUN = Run(ONCE, ("p", 0), ("p", 0), ("q", 0))


def own_steps(run):
    """The triples (index, process, number) of all steps of processes."""
    told = slow.play(run.program, run.steps)[2]
    return [(at, name, number) for at, (name, number, _, _, _) in enumerate(told) if name is not None]


def small_runs(many, seed, most=30):
    """So many runs of drawn programs behind which there are few layouts."""
    found = 0
    for rng, program in draws(6 * many, seed=seed):
        run = draw_history(rng, program, rng.randint(0, 12))[1]
        if found < many and len(Outlook(program, Walk(run).scene, most).layouts) <= most:
            found += 1
            yield rng, run


class Example(ErrorCase):
    def test_example(self):
        run_examples(self, EXAMPLE, {**NAMES, "Run": Run, **{one.__name__: one for one in FUNCTIONS}})

    def test_all_stands_where_it_is_listed(self):
        self.assertEqual(repr(module.MAX_LAYOUTS), "2000")
        for function in FUNCTIONS:
            self.assertEqual(function.__module__, module.__name__)


class Begins(ErrorCase):
    def test_by_the_rows_of_drawn_runs(self):
        for rng, program in draws(80, seed=30):
            run = draw_history(rng, program, rng.randint(0, 16))[1]
            begins = slow_later.begins(program, run.steps)
            every, own = held(run), targets(run)
            self.assertEqual([list(every), list(own)], [list(program.processes)] * 2)
            for name in program.processes:
                rows = {place for (_, process), place in begins.items() if process == name}
                self.assertEqual(every[name], tuple(sorted(rows)))
                rows = {begins[pair] for pair in begins if pair[1] == name and pair[0] in program.processes}
                self.assertEqual(own[name], tuple(sorted(rows)))

    def test_targets_are_where_a_failure_leads_now(self):
        for rng, program in draws(30, seed=31):
            run = draw_run(rng, program, 14)
            found = {name: set() for name in program.processes}
            for failed in program.processes:
                for name in program.processes:
                    place = slow_later.thrown_to(program, run.steps, (failed,), name)
                    if place is not None:
                        found[name].add(place)
            self.assertEqual(targets(run), {name: tuple(sorted(found[name])) for name in found})

    def test_few_targets(self):
        for rng, program in draws(60, seed=32, processes=(2, 4), kinds=(1, 4)):
            run = draw_run(rng, program, 25)
            many = len(program)
            self.assertLessEqual(sum(len(own) for own in targets(run).values()), many * (many + 1) // 2)

    def test_four_processes_and_long_runs(self):
        for rng, program in draws(15, seed=33, processes=(4, 4), kinds=(3, 4)):
            run = draw_run(rng, program, 30)
            expected = slow_later.held(program, run.steps)
            self.assertEqual(held(run), {name: tuple(expected[name]) for name in program.processes})


class Needed(ErrorCase):
    def test_layouts_word_by_word(self):
        for _, run in small_runs(25, seed=34):
            found = Outlook(run.program, Walk(run).scene, 2000).layouts
            self.assertEqual(len(found), len(slow_later.layouts(run.program, run.steps)))

    def test_by_a_search_through_all_layouts(self):
        kinds = set()
        for _, run in small_runs(30, seed=35):
            found = needed(run)
            self.assertEqual(list(found), list(run.program.processes))
            self.assertEqual(found, slow_later.needed(run.program, run.steps))
            kinds |= {place in found[name] for name, every in held(run).items() for place in every}
        self.assertEqual(kinds, {True, False})

    def test_by_all_events_up_to_some_length(self):
        for _, run in small_runs(12, seed=36, most=60):
            program, found = run.program, needed(run)
            thrown = slow_later.soon_thrown_to(program, run.steps, 4)
            for name in program.processes:
                for place in places(run, name):
                    if (name, place) in thrown:
                        self.assertIn(place, found[name])
                for at, process, number in own_steps(run):
                    if any((process, place) in thrown for place in range(number + 1)):
                        self.assertIs(is_settled(run, at), False)

    def test_settled_steps(self):
        kinds = set()
        for _, run in small_runs(30, seed=37):
            found = slow_later.needed(run.program, run.steps)
            for at, name, number in own_steps(run):
                expected = all(place > number for place in found[name])
                kinds.add(expected)
                self.assertIs(is_settled(run, at), expected)
                self.assertIs(unsettling(run, at) is None, expected)
        self.assertEqual(kinds, {True, False})

    def test_what_is_not_held_is_not_needed(self):
        for rng, program in draws(20, seed=38):
            run = draw_run(rng, program, 14)
            try:
                found = needed(run)
            except TooMany:
                continue
            for name in program.processes:
                self.assertLessEqual(set(found[name]), set(held(run)[name]))
                self.assertLessEqual(set(targets(run)[name]), set(found[name]))

    def test_a_needed_place_ahead_of_one_that_is_not(self):
        # Nobody takes z, so no failure leads to the place 1, but that of q leads behind it.
        stuck = Machine((("send", "m", 1, 1, "save"),), (("send", "z", 2, 1, "save"),), ())
        program = Program({"p": stuck, "q": Machine((("take", "m", 0, 1, None),))},
                          {"m": ("p", "q", 1, True), "z": ("p", "q", 1, True)})
        run = Run(program, ("p", 0), ("q", 0), ("p", 0))
        self.assertEqual([held(run)["p"], needed(run)["p"]], [(0, 1, 2), (0, 2)])
        self.assertEqual([recall(run, "p", 1), is_settled(run, 2), unsettling(run, 2)], [None, False, (("q",),)])

    def test_what_is_not_true(self):
        # No failure leads to the first place of p now, but a letter under way can still lead there.
        self.assertEqual([targets(RUN)["p"], needed(RUN)["p"]], [(2,), (0, 2)])
        # The output is settled in no run in which q has not saved the letter, though p has saved.
        self.assertEqual([places(RUN, "p"), is_settled(RUN, 0)], [(0, 2), False])
        # The last place of a process need not be needed: its own failure throws it back further.
        run = Run(TALK, ("a", 0), ("b", 0), ("b", 1), ("a", 1), ("a", 0), ("b", 0), ("b", 1), ("a", 1))
        self.assertNotIn(places(run, "a")[-1], needed(run)["a"])


class Events(ErrorCase):
    def test_recalls_are_recalls(self):
        for _, run in small_runs(30, seed=39):
            program, found = run.program, needed(run)
            for name in program.processes:
                for place in places(run, name):
                    events = recall(run, name, place)
                    self.assertIs(events is not None, place in found[name])
                    if events is not None:
                        self.assertIs(is_recall(run, name, place, events), True)
                        self.assertIs(slow_later.is_recall(program, run.steps, name, place, events), True)
                        self.assertEqual(recall(run, name, place), events)

    def test_unsettlings_are_unsettlings(self):
        for _, run in small_runs(30, seed=40):
            for at, _, _ in own_steps(run):
                events = unsettling(run, at)
                if events is not None:
                    self.assertIs(is_unsettling(run, at, events), True)
                    self.assertIs(slow_later.is_unsettling(run.program, run.steps, at, events), True)

    def test_events_throw_back_what_they_tell(self):
        left = RUN
        for event in unsettling(RUN, 0)[:-1]:
            left = behind_failure(left, *event) if isinstance(event[-1], str) else left.longer(event)
        self.assertIn(0, thrown_back(left, *unsettling(RUN, 0)[-1]))

    def near(self, program, events):
        """Values that are nearly these events."""
        names = program.processes
        more = [(name,) for name in names] + [(name, number) for name in names + program.kinds for number in (0, 1)]
        for at, event in enumerate(events):
            yield events[:at] + events[at + 1:]
            yield events[:at] + (event,) + events[at:]
            yield events[:at] + (list(event),) + events[at + 1:]
            yield events[:at] + (tuple(bool(part) if part == 1 else part for part in event),) + events[at + 1:]
            for other in more:
                yield events[:at] + (other,) + events[at + 1:]
                yield events[:at] + (other,) + events[at:]
        yield from (list(events), events[::-1], events + events, events[:-1], (events,), None, ())
        yield events[:-1] + (tuple(sorted(names)),)
        yield events[:-1] + ((events[-1][0], events[-1][0]),)
        yield tuple(sorted(names)) + events
        yield (names[:2],) + events

    def test_values_near_recalls(self):
        found = {True: 0, False: 0}
        for rng, run in small_runs(20, seed=41):
            program = run.program
            name = rng.choice(program.processes)
            for place in places(run, name):
                events = recall(run, name, place)
                for value in self.near(program, events or ((name,),)):
                    before = repr(value)
                    expected = slow_later.is_recall(program, run.steps, name, place, value)
                    self.assertIs(is_recall(run, name, place, value), expected, value)
                    self.assertEqual(repr(value), before)
                    found[expected] += 1
        self.assertGreater(min(found.values()), 100)

    def test_values_near_unsettlings(self):
        found = {True: 0, False: 0}
        for rng, run in small_runs(20, seed=42):
            program, steps = run.program, own_steps(run)
            for at, name, _ in rng.sample(steps, min(3, len(steps))):
                events = unsettling(run, at)
                for value in self.near(program, events or ((name,),)):
                    expected = slow_later.is_unsettling(program, run.steps, at, value)
                    self.assertIs(is_unsettling(run, at, value), expected, value)
                    found[expected] += 1
        self.assertGreater(min(found.values()), 100)

    def test_drawn_events(self):
        found = {True: 0, False: 0}
        for rng, run in small_runs(40, seed=43, most=100):
            program = run.program
            for _ in range(12):
                events, left = [], run
                for _ in range(rng.randint(0, 5)):
                    if rng.random() < 0.4 or not left.possible:
                        events.append(tuple(sorted(rng.sample(program.processes, rng.randint(1, 2)))))
                        left = behind_failure(left, *events[-1])
                    else:
                        events.append(rng.choice(left.possible))
                        left = left.longer(events[-1])
                value = tuple(events) + ((rng.choice(program.processes),),)
                for name in program.processes:
                    for place in places(run, name):
                        expected = slow_later.is_recall(program, run.steps, name, place, value)
                        self.assertIs(is_recall(run, name, place, value), expected)
                        found[expected] += 1
                for at, _, _ in own_steps(run)[-4:]:
                    expected = slow_later.is_unsettling(program, run.steps, at, value)
                    self.assertIs(is_unsettling(run, at, value), expected)
        self.assertGreater(min(found.values()), 50)

    def test_a_place_that_is_made_again_is_another_one(self):
        # b goes back behind its place 1 and makes a place 1 again.
        program = TALK.with_keeping(("b", 0, 0, "note"), ("a", 0, 0, None), ("a", 0, 1, "save"))
        run = Run(program, ("a", 0), ("b", 0))
        again = (("a",), ("a", 0), ("b", 0), ("b",))
        self.assertEqual(places(run, "b"), (0, 1))
        self.assertIs(is_recall(run, "b", 1, (("b",),)), True)
        self.assertIs(is_recall(run, "b", 1, again), False)
        self.assertIs(slow_later.is_recall(program, run.steps, "b", 1, again), False)
        self.assertIs(is_unsettling(run, 1, again), False)
        self.assertIs(is_unsettling(run, 1, again[:1]), True)

    def test_other_values(self):
        for value in EVERY:
            self.assertIs(is_recall(RUN, "p", 0, value), False)
            self.assertIs(is_unsettling(RUN, 0, value), False)
            self.assertIs(is_recall(RUN, "p", 0, (value, ("q",))), False)
            self.assertIs(is_unsettling(RUN, 0, (("q", 1), value)), False)


class TooManyLayouts(ErrorCase):
    def test_each_function(self):
        run = Run(FULL, ("a", 1))
        self.assertEqual(len(Outlook(FULL, Walk(run).scene, 2000).layouts), 2001)
        for call in (
            lambda: needed(run), lambda: recall(run, "a", 0), lambda: is_settled(run, 0), lambda: unsettling(run, 0),
        ):
            self.assert_raises(TooMany(2000), call)
            self.assert_raises(TooMany(2000), call)
        self.assertEqual([held(run)["c"], targets(run)["d"]], [(0,), (0,)])
        self.assertIs(is_recall(run, "a", 0, (("a",),)), True)
        self.assertIs(is_unsettling(run, 0, (("a",),)), True)

    def test_other_errors_come_first(self):
        run = Run(FULL, ("a", 1))
        for value in (1, None, "0"):
            self.assert_raises(InvalidNumber(value), lambda: recall(run, "a", value))
            self.assert_raises(InvalidNumber(2), lambda: is_settled(run, 2))
        self.assert_raises(UnknownName("k"), lambda: recall(run, "k", 0))

    def test_the_border(self):
        # Behind the run there are just so many layouts; one is missing, and there are too many.
        run = Run(RING, ("a", 0))
        many = len(Outlook(RING, Walk(run).scene, 2000).layouts)
        self.assertEqual(len(Outlook(RING, Walk(run).scene, many).layouts), many)
        self.assertEqual(len(Outlook(RING, Walk(run).scene, many - 1).layouts), many)
        self.assertLess(many, 2000)

    def test_just_2000(self):
        run = Run(LATER)
        self.assertEqual(len(Outlook(LATER, Walk(run).scene, 2000).layouts), 2000)
        self.assertEqual(needed(run), {name: (0,) for name in LATER.processes})
        self.assertEqual(recall(run, "b", 0), (("b",),))


class Errors(ErrorCase):
    def test_no_run(self):
        for value in NO_RUNS:
            for call in (targets, held, needed):
                self.assert_raises(InvalidRun(0), lambda: call(value))
            for call in (is_settled, unsettling, lambda run, index: is_unsettling(run, index, 0)):
                self.assert_raises(InvalidRun(0), lambda: call(value, 0))
            for call in (recall, lambda *rest: is_recall(*rest, 0)):
                self.assert_raises(InvalidRun(0), lambda: call(value, 0, "p"))

    def test_no_process(self):
        for value in EVERY + ("m", "P"):
            for call in (recall, lambda *rest: is_recall(*rest, 0)):
                self.assert_raises(UnknownName(value), lambda: call(RUN, value, 9))

    def test_no_place(self):
        for call in (recall, lambda *rest: is_recall(*rest, 0)):
            for value in without(EVERY, 0):
                self.assert_raises(InvalidNumber(value), lambda: call(RUN, "q", value))
            for value in (1, 3, -1, False, "0", None):
                self.assert_raises(InvalidNumber(value), lambda: call(RUN, "p", value))

    def test_no_step_of_a_process(self):
        run = Run(LOSSY, ("s", 0), ("x", 0), ("s", 1))
        for call in (is_settled, unsettling, lambda run, index: is_unsettling(run, index, 0)):
            for value in without(EVERY, 0) + [1, 3, -1, True]:
                self.assert_raises(InvalidNumber(value), lambda: call(run, value))

    def test_runs_stay(self):
        for program in EVERY_PROGRAM:
            run = Run(program)
            before = copy.deepcopy((run.steps, run.states, run.lanes))
            needed(run), held(run), targets(run), [recall(run, name, 0) for name in program.processes]
            self.assertEqual((run.steps, run.states, run.lanes), before)
            self.assertEqual(run, Run(program))
            needed(run).clear()
            self.assertEqual(needed(run), {name: (0,) for name in program.processes})
            self.assertEqual(holders(run), program.processes)
        self.assertEqual(needed(Run(ALONE, ("a", 0))), {"a": (0,), "b": (0,)})


if __name__ == "__main__":
    unittest.main()
