import unittest

from fallsback.base.words import KEEPINGS
from fallsback.errors import InvalidOperation, InvalidProgram, TooMany
from fallsback.plan import editions as module
from fallsback.plan.editions import coarser, finer, is_no_worse, is_parting, parting
from fallsback.plan.pairs import Pairs
from fallsback.rows.standings import standings
from fallsback.run.lines import thrown_back
from fallsback.run.runs import Run, each_run
from tests import slow
from tests.cases import ErrorCase
from tests.drawn import draw_run, draws
from tests.examples import run_examples
from tests.samples import ALONE, CALM, EVERY_PROGRAM, FULL, LOSSY, NAMES, ONCE, OVER, RING, TALK
from tests.values import EVERY, without

EXAMPLE = """
>>> half = TALK.with_keeping(("a", 0, 1, "save"))
>>> [is_no_worse(CALM, TALK), is_no_worse(TALK, CALM), is_no_worse(half, CALM), parting(half, TALK)]
[True, False, False, None]
>>> [is_parting(TALK, CALM, ((("a", 0), ("b", 0)), "b", 0)), is_parting(TALK, CALM, ((("a", 0), ("b", 0)), "a", 0))]
[True, False]
>>> [finer(half, TALK) == half, coarser(half, CALM) == half, coarser(half, TALK.with_keeping(("b", 0, 0, "note"))) == TALK]
[True, True, True]
"""
FUNCTIONS = (is_no_worse, parting, is_parting, finer, coarser)
OF_BOTH = (is_no_worse, parting, finer, coarser, lambda one, other: is_parting(one, other, 0))


def other_edition(rng, program, share=0.5):
    """The program with other keepings of some moves."""
    marks = []
    for name in program.processes:
        for state, number, move in program[name].moves():
            if rng.random() < share:
                keepings = [None, "save"] + (["note", "note"] if move[0] == "take" else [])
                marks.append((name, state, number, rng.choice(keepings)))
    return program.with_keeping(*marks)


def worse(one, other, steps):
    """The pairs (process, index) such that behind these steps a failure throws the step back by one, not by the other."""
    told, other_told = slow.play(one, steps)[2], slow.play(other, steps)[2]
    return {(name, at) for name in one.processes
            for at in set(slow.thrown_back(one, told, [name])) - set(slow.thrown_back(other, other_told, [name]))}


def editions(many, seed, **sizes):
    """So many pairs of programs that are alike and behind whose runs there are not too many pairs."""
    for rng, program in draws(many, seed=seed, **sizes):
        other = other_edition(rng, program)
        if len(Pairs(program, other, 2000).spots) <= 2000:
            yield rng, program, other


class Example(ErrorCase):
    def test_example(self):
        run_examples(self, EXAMPLE, {**NAMES, **{one.__name__: one for one in FUNCTIONS}})

    def test_all_stands_where_it_is_listed(self):
        self.assertEqual(repr(module.MAX_PAIRS), "2000")
        for function in FUNCTIONS:
            self.assertEqual(function.__module__, module.__name__)


class NoWorse(ErrorCase):
    def test_against_all_runs(self):
        found = set()
        for rng, one, other in editions(80, seed=70):
            triple = parting(one, other)
            self.assertIs(is_no_worse(one, other), triple is None)
            found.add((triple is None, is_no_worse(other, one)))
            runs = [run.steps for many in range(5) for run in each_run(one, many)][:200]
            runs += [draw_run(rng, one, 20).steps for _ in range(15)]
            if triple is None:
                for steps in runs:
                    self.assertEqual(worse(one, other, steps), set())
            else:
                steps, process, index = triple
                self.assertIn((process, index), worse(one, other, steps))
                self.assertIs(is_parting(one, other, triple), True)
                self.assertEqual(parting(one, other), triple)
        self.assertEqual(len(found), 4)

    def test_what_some_short_run_shows_is_found(self):
        for rng, one, other in editions(40, seed=71, processes=(3, 3)):
            if is_no_worse(one, other):
                continue
            self.assertTrue(worse(one, other, parting(one, other)[0]))

    def test_further_keepings_are_no_worse(self):
        for rng, one, other in editions(40, seed=72):
            for program in (one, other):
                for better, worst in ((finer(one, other), program), (program, coarser(one, other))):
                    if len(Pairs(better, worst, 2000).spots) <= 2000:
                        self.assertIs(is_no_worse(better, worst), True)

    def test_the_same_program(self):
        for program in EVERY_PROGRAM:
            self.assertIs(is_no_worse(program, program.with_keeping()), True)
            self.assertIs(is_no_worse(program, program.talk), True)
        self.assertIs(is_no_worse(RING.talk, RING), False)
        self.assertIs(is_no_worse(ALONE.talk, ALONE), True)

    def test_large_programs(self):
        self.assertIs(is_no_worse(FULL, FULL), True)
        for mark in FULL.marks:
            other = FULL.with_keeping(mark[:3] + (None,))
            try:
                triple = parting(other, FULL)
            except TooMany:
                continue
            if triple is not None:
                self.assertIs(is_parting(other, FULL, triple), True)


class Judging(ErrorCase):
    def near(self, program, triple):
        steps, process, index = triple
        for at, step in enumerate(steps):
            yield (steps[:at] + steps[at + 1:], process, index)
            yield (steps[:at] + (step,) + steps[at:], process, index)
            yield (steps[:at] + (list(step),) + steps[at + 1:], process, index)
            yield (steps[:at] + ((step[0], bool(step[1])),) + steps[at + 1:], process, index)
            yield (steps[:at], process, index)
        for name in program.processes + program.kinds + ("z", None, 0):
            for at in tuple(range(len(steps) + 2)) + (-1, True, False, None, "0"):
                yield (steps, name, at)
        yield from (list(triple), triple[:2], triple + (0,), triple[::-1], (list(steps), process, index), None, ())
        yield from ((steps, (process,), index), (triple,), steps, (None, process, index), ((), process, 0))

    def test_values_near_partings(self):
        found = {True: 0, False: 0}
        for rng, one, other in editions(40, seed=73):
            triple = parting(one, other) or (draw_run(rng, one, 8).steps, one.processes[0], 0)
            for value in self.near(one, triple):
                before = repr(value)
                expected = self.is_parting(one, other, value)
                self.assertIs(is_parting(one, other, value), expected, value)
                self.assertEqual(repr(value), before)
                found[expected] += 1
        self.assertGreater(min(found.values()), 30)

    def is_parting(self, one, other, value):
        if not isinstance(value, tuple) or len(value) != 3 or not slow.is_steps(one, value[0]):
            return False
        if value[2].__class__ is not int:
            return False
        return list(value[1:]) in [list(pair) for pair in worse(one, other, value[0])]

    def test_vanishings_are_never_thrown_back(self):
        steps = (("s", 0), ("x", 0), ("s", 0))
        better = LOSSY.with_keeping(("s", 0, 0, "save"))
        self.assertEqual(worse(LOSSY, better, steps), {("s", 0), ("s", 2)})
        for index, expected in ((0, True), (1, False), (2, True)):
            self.assertIs(is_parting(LOSSY, better, (steps, "s", index)), expected)
            self.assertIs(is_parting(better, LOSSY, (steps, "s", index)), False)

    def test_other_values(self):
        for value in EVERY:
            self.assertIs(is_parting(TALK, CALM, value), False)
            for other in ((value, "b", 0), ((("a", 0), ("b", 0)), value, 0), ((("a", 0), ("b", 0)), "b", value)):
                self.assertIs(is_parting(TALK, CALM, other), self.is_parting(TALK, CALM, other))

    def test_judged_without_pairs(self):
        better = OVER.with_keeping(("a", 0, 0, "save"))
        self.assertIs(is_parting(OVER, better, ((("a", 0),), "a", 0)), True)
        self.assertIs(is_parting(better, OVER, ((("a", 0),), "a", 0)), False)


class Mixed(ErrorCase):
    def test_move_by_move(self):
        for rng, program in draws(60, seed=74):
            other = other_edition(rng, program)
            both = finer(program, other), coarser(program, other)
            self.assertEqual(both, (finer(other, program), coarser(other, program)))
            for name in program.processes:
                for state, number, move in program[name].moves():
                    keepings = sorted([move[4], other[name][state, number][4]], key=KEEPINGS.index)
                    for one, keeping in zip(both, keepings[::-1]):
                        self.assertEqual(one[name][state, number], move[:4] + (keeping,))

    def test_the_same(self):
        for program in EVERY_PROGRAM:
            self.assertEqual([finer(program, program.talk), coarser(program, program.talk)], [program, program.talk])
            self.assertEqual([finer(program, program), coarser(program, program)], [program, program])
        self.assertEqual([finer(OVER, OVER.talk), coarser(OVER.talk, OVER)], [OVER, OVER.talk])


class Errors(ErrorCase):
    def test_no_program(self):
        for value in without(EVERY, TALK):
            for call in OF_BOTH:
                self.assert_raises(InvalidProgram(), lambda: call(value, 0))
                self.assert_raises(InvalidProgram(), lambda: call(TALK, value))
                self.assert_raises(InvalidProgram(), lambda: call(OVER, value))

    def test_not_alike(self):
        for other in (ONCE, TALK.priced(2), TALK.with_kind("ask", ("a", "b", 2, True)), TALK.renamed({"a": "c"}), RING):
            for call in OF_BOTH:
                self.assert_raises(InvalidOperation(), lambda: call(TALK, other))
                self.assert_raises(InvalidOperation(), lambda: call(other, CALM))
        for call in OF_BOTH:
            self.assert_raises(InvalidOperation(), lambda: call(OVER, FULL))

    def test_too_many_pairs(self):
        for call in (is_no_worse, parting):
            self.assert_raises(TooMany(2000), lambda: call(OVER, OVER))
            self.assert_raises(TooMany(2000), lambda: call(OVER, OVER.talk))
            self.assert_raises(TooMany(2000), lambda: call(FULL, FULL.talk))
        self.assertEqual(len(Pairs(FULL, FULL, 2000).spots), len(standings(FULL)))

    def test_pairs_behind_runs(self):
        for rng, one, other in editions(20, seed=75):
            pairs = set()
            ahead = [()]
            while ahead:
                steps = ahead.pop()
                pair = (slow.standing(one, steps), slow.standing(other, steps))
                if pair not in pairs and len(pairs) <= 200:
                    pairs.add(pair)
                    ahead += [steps + (step,) for step in Run(one, *steps).possible]
            if len(pairs) <= 200:
                self.assertEqual(len(Pairs(one, other, 2000).spots), len(pairs))

    def test_programs_stay(self):
        one, other = TALK.with_keeping(), CALM.with_keeping()
        parting(one, other), finer(one, other), coarser(one, other)
        self.assertEqual([one, other], [TALK, CALM])
        steps, process, index = parting(TALK, CALM)
        self.assertIn(index, thrown_back(Run(TALK, *steps), process))
        self.assertNotIn(index, thrown_back(Run(CALM, *steps), process))


if __name__ == "__main__":
    unittest.main()
