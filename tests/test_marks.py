import itertools
import random
import unittest

from fallsback.base.machines import Machine
from fallsback.errors import InvalidNumber, InvalidOperation, InvalidProgram, TooMany
from fallsback.plan import marks as module
from fallsback.plan.marks import is_bounded, least_marks, short_marks
from fallsback.rows.losses import losses
from tests.cases import ErrorCase
from tests.drawn import small_draws
from tests.examples import run_examples
from tests.samples import ALONE, CALM, FULL, LOSSY, NAMES, ONCE, OVER, RING, TALK
from tests.values import EVERY, OTHERS, without

EXAMPLE = """
>>> marks = (("a", 0, 1, "save"), ("b", 0, 0, "save"))
>>> [is_bounded(TALK), is_bounded(CALM, limit=0), least_marks(CALM, ()), short_marks(CALM, ())]
[False, True, ((),), ()]
>>> [least_marks(TALK, marks), short_marks(TALK, marks)]
[((('a', 0, 1, 'save'), ('b', 0, 0, 'save')),), ((('a', 0, 1, 'save'),), (('b', 0, 0, 'save'),))]
"""
FUNCTIONS = (is_bounded, least_marks, short_marks)
BOTH = (least_marks, short_marks)
MARKS = (("a", 0, 1, "save"), ("b", 0, 0, "note"))


def bounded(program, limit):
    """Whether all losses are bounded, or no greater than the limit, by the table of them."""
    every = [loss for row in losses(program).values() for loss in row.values()]
    return all(loss is not None and (limit is None or loss <= limit) for loss in every)


def by_all_sets(program, marks, limit):
    """The least sets that are enough and the greatest ones that are not, by a look at all sets."""
    every = [picked for many in range(len(marks) + 1) for picked in itertools.combinations(marks, many)]
    enough = {picked: bounded(program.with_keeping(*picked), limit) for picked in every}
    least = [one for one in every if enough[one] and not any(enough[two] and set(two) < set(one) for two in every)]
    short = [one for one in every if not enough[one]
             and not any(not enough[two] and set(one) < set(two) for two in every)]
    return tuple(sorted(least)), tuple(sorted(short))


def further(rng, program, most):
    """An ascending tuple of at most so many further marks of different moves."""
    found = []
    for name in program.processes:
        for state, number, move in program[name].moves():
            keepings = ["save"] if move[0] != "take" or move[4] == "note" else ["save", "note"]
            if move[4] != "save":
                found.append((name, state, number, rng.choice(keepings)))
    return tuple(sorted(rng.sample(found, min(most, len(found)))))


class Example(ErrorCase):
    def test_example(self):
        run_examples(self, EXAMPLE, {**NAMES, **{one.__name__: one for one in FUNCTIONS}})

    def test_all_stands_where_it_is_listed(self):
        self.assertEqual(repr(module.MAX_MARKS), "6")
        for function in FUNCTIONS:
            self.assertEqual(function.__module__, module.__name__)


class Bounded(ErrorCase):
    def test_drawn_programs(self):
        found = set()
        for rng, program, _ in small_draws(60, seed=60):
            for limit in (None, 0, 1, 2, 5, 9, 30, 10 ** 60 - 1):
                expected = bounded(program, limit)
                found.add((limit is None, expected))
                self.assertIs(is_bounded(program, limit), expected)
                self.assertIs(is_bounded(program, limit=limit), expected)
        self.assertEqual(len(found), 4)

    def test_the_border(self):
        self.assertEqual([is_bounded(ONCE, 5), is_bounded(ONCE, 4), is_bounded(ONCE)], [True, False, True])
        self.assertEqual([is_bounded(CALM, 0), is_bounded(ALONE, 0), is_bounded(TALK.priced(0), 0)], [True] * 3)

    def test_errors(self):
        for value in without(EVERY, TALK):
            self.assert_raises(InvalidProgram(), lambda: is_bounded(value))
            self.assert_raises(InvalidProgram(), lambda: is_bounded(value, -1))
        for value in without(OTHERS, None) + [-1, -2]:
            for program in (TALK, OVER):
                self.assert_raises(InvalidNumber(value), lambda: is_bounded(program, value))
                self.assert_raises(InvalidNumber(value), lambda: is_bounded(program, limit=value))
        for limit in (None, 0):
            self.assert_raises(TooMany(2000), lambda: is_bounded(OVER, limit))
            self.assertIs(is_bounded(FULL, limit), False)


class Sets(ErrorCase):
    def test_against_all_sets(self):
        found = set()
        for rng, program, _ in small_draws(50, seed=61):
            program = program.talk if rng.random() < 0.8 else program
            marks = further(rng, program, rng.randint(1, 5))
            for limit in (None, 0, 2):
                least, short = by_all_sets(program, marks, limit)
                self.assertEqual(repr(least_marks(program, marks, limit)), repr(least))
                self.assertEqual(repr(short_marks(program, marks, limit=limit)), repr(short))
                found.add((len(least), len(short)))
        self.assertLessEqual({0, 1}, {least for least, _ in found})
        self.assertLessEqual({0, 1, 2}, {short for _, short in found})

    def test_one_of_two_is_enough(self):
        program = ALONE.with_machine("a", Machine((("work", None, 1, 1, None),), (("work", None, 0, 2, None),)))
        one, other = ("a", 0, 0, "save"), ("a", 1, 0, "save")
        alone, both = ((one,), (other,)), ((one, other),)
        for limit, least, short in (
            (None, alone, ((),)), (3, alone, ((),)), (2, alone, ((),)), (1, ((other,),), ((one,),)), (0, both, alone),
        ):
            self.assertEqual(least_marks(program, (one, other), limit), least)
            self.assertEqual(short_marks(program, (one, other), limit), short)

    def test_six_marks(self):
        for rng, program, _ in small_draws(6, seed=62, most=40):
            marks = further(rng, program, 6)
            self.assertEqual((least_marks(program, marks, 1), short_marks(program, marks, 1)),
                             by_all_sets(program, marks, 1))
        marks = further(random.Random(3), RING, 6)
        self.assertEqual(len(marks), 5)
        self.assertEqual((least_marks(RING, marks), short_marks(RING, marks)), by_all_sets(RING, marks, None))

    def test_without_marks(self):
        self.assertEqual([least_marks(TALK, ()), short_marks(TALK, ())], [(), ((),)])
        self.assertEqual([least_marks(ONCE, (), 5), short_marks(ONCE, (), limit=4)], [((),), ((),)])

    def test_enough_stays_enough(self):
        for rng, program, _ in small_draws(20, seed=63, most=40):
            marks = further(rng, program, 3)
            enough = [set(picked) for picked in least_marks(program, marks, 3)]
            for many in range(len(marks) + 1):
                for picked in itertools.combinations(marks, many):
                    expected = any(one <= set(picked) for one in enough)
                    self.assertIs(is_bounded(program.with_keeping(*picked), 3), expected)

    def test_what_was_passed_stays(self):
        program, marks = TALK.with_keeping(), tuple(MARKS)
        least_marks(program, marks), short_marks(program, marks)
        self.assertEqual([program, marks], [TALK, MARKS])


class Errors(ErrorCase):
    def test_no_program(self):
        for value in without(EVERY, TALK):
            for call in BOTH:
                self.assert_raises(InvalidProgram(), lambda: call(value, 0, -1))

    def test_no_marks(self):
        wrong = (
            [MARKS[0]], list(MARKS), MARKS[::-1], (MARKS[0], MARKS[0]), MARKS[0], (("a", 0, 0, "save"),),
            (("a", 0, 1, None),), (("a", 0, 0, None),), (("a", 0, 0, "note"),), (("a", 0, 1, "note"), ("a", 0, 1, "save")),
            (("c", 0, 0, "save"),), (("ask", 0, 1, "save"),), (("a", 1, 0, "save"),), (("a", 0, 2, "save"),),
            (("a", False, 1, "save"),), (("a", 0, True, "save"),), (("a", 0, 1),), (("a", 0, 1, "save", 0),),
            (["a", 0, 1, "save"],), {MARKS[0]: 0}, (MARKS[0], 0), ((), MARKS[0]), MARKS + (None,),
        )
        for call in BOTH:
            self.assertIsInstance(call(TALK, MARKS), tuple)
            for value in wrong + tuple(without(EVERY, ())):
                self.assert_raises(InvalidOperation(), lambda: call(TALK, value))
                self.assert_raises(InvalidOperation(), lambda: call(TALK, value, -1))
            for value in without(EVERY, ()):
                self.assert_raises(InvalidOperation(), lambda: call(TALK, (value,)))
            self.assert_raises(InvalidOperation(), lambda: call(LOSSY, (("t", 0, 0, "note"),)))

    def test_no_limit(self):
        for call in BOTH:
            for value in without(OTHERS, None) + [-1]:
                self.assert_raises(InvalidNumber(value), lambda: call(TALK, MARKS, value))
                self.assert_raises(InvalidNumber(value), lambda: call(OVER, (), limit=value))
            self.assert_raises(InvalidOperation(), lambda: call(TALK, MARKS[::-1], -1))

    def test_too_many_marks(self):
        moves = [("work", None, 0, 1, None)] * 6
        program = ALONE.with_machine("a", ALONE["a"].with_state(0, *moves)).with_machine(
            "b", ALONE["b"].with_state(0, *moves))
        marks = tuple(("a", 0, number, "save") for number in range(6)) + (("b", 0, 0, "save"),)
        for call in BOTH:
            self.assertIsInstance(call(program, marks[:6]), tuple)
            self.assert_raises(TooMany(6), lambda: call(program, marks))
            self.assert_raises(InvalidNumber(-1), lambda: call(program, marks, -1))
            self.assert_raises(TooMany(6), lambda: call(OVER, further(random.Random(1), OVER, 7)))

    def test_too_many_standings(self):
        for call in BOTH:
            self.assert_raises(TooMany(2000), lambda: call(OVER, ()))
        # The program has not too many, and with one mark it has.
        self.assertIsInstance(least_marks(FULL, ()), tuple)
        found = [mark for mark in self.every_mark(FULL) if self.has_too_many(FULL.with_keeping(mark))]
        self.assertTrue(found)
        for call in BOTH:
            self.assert_raises(TooMany(2000), lambda: call(FULL, (found[0],)))

    def test_one_of_the_sets_with_too_many_standings(self):
        # Neither without marks nor with both of them there are too many; what is enough is known without the rest.
        both = (("a", 0, 0, "save"), ("b", 0, 0, "save"))
        for program in (FULL, FULL.priced(0)):
            found = [self.has_too_many(program.with_keeping(*marks)) for marks in ((), both[:1], both[1:], both)]
            self.assertEqual(found, [False, True, False, False])
            for call in BOTH:
                self.assert_raises(TooMany(2000), lambda: call(program, both))
                self.assert_raises(TooMany(2000), lambda: call(program, both, 3))

    def every_mark(self, program):
        for name in program.processes:
            for state, number, move in program[name].moves():
                if move[4] is None:
                    yield (name, state, number, "save")

    def has_too_many(self, program):
        try:
            is_bounded(program)
            return False
        except TooMany:
            return True


if __name__ == "__main__":
    unittest.main()
