import copy
import unittest

from fallsback.errors import InvalidOperation, InvalidProgram, InvalidRun, UnknownName
from fallsback.rows import ledgers
from fallsback.rows.ledgers import Ledger, holders, joined, rows_of
from fallsback.rows.standings import standing_of
from fallsback.run.lines import lost
from fallsback.run.runs import Run
from tests import slow
from tests.cases import ErrorCase
from tests.drawn import draw_failed, draw_history, draw_run, draws
from tests.examples import run_examples
from tests.samples import CALM, EVERY_PROGRAM, LOSSY, NAMES, ONCE, RING, TALK
from tests.values import EVERY, nested, without

EXAMPLE = """
>>> ledger = Ledger(TALK)
>>> [ledger.do(("a", 0), ("b", 0), ("b", 1)), ledger.rows]
[3, {'a': ({'a': 0}, ()), 'b': ({'b': 0}, ()), ('tell', 0): ({'a': 1, 'b': 2}, (('tell', 0),))}]
>>> [ledger.do(("a", 1)), ledger.row("a"), ledger.loses("a"), str(ledger)]
[4, ({'a': 2, 'b': 2}, ()), {'a': 2, 'b': 2}, 'ledger of 4 steps, 2 holders']
>>> joined(({"a": 1, "b": 4}, (("m", 1),)), ({"b": 2, "c": 0}, (("m", 0),)))
({'a': 1, 'b': 4, 'c': 0}, (('m', 0), ('m', 1)))
"""
EMPTY = ({}, ())


class Example(ErrorCase):
    def test_example(self):
        run_examples(self, EXAMPLE, {**NAMES, "Ledger": Ledger, "joined": joined})

    def test_all_stands_where_it_is_listed(self):
        self.assert_listed(
            ledgers, Ledger,
            "__init__ program states lanes rows standing row do loses twin __len__ __eq__ __str__ of",
        )
        for function in (holders, rows_of, joined):
            self.assertEqual(function.__module__, ledgers.__name__)


class Holders(ErrorCase):
    def test_letters_of_sure_kinds_only(self):
        run = Run(LOSSY, ("s", 0), ("s", 0), ("t", 1))
        self.assertEqual(holders(run), ("s", "t", ("y", 0)))
        two = Run(LOSSY.with_kind("x", ("s", "t", 2, True)), *run)
        self.assertEqual(holders(two), ("s", "t", ("x", 0), ("x", 1), ("y", 0)))
        for program in EVERY_PROGRAM:
            self.assertEqual(holders(Run(program)), program.processes)

    def test_no_run(self):
        for value in [other for other in EVERY if not isinstance(other, Run)]:
            self.assert_raises(InvalidRun(0), lambda: holders(value))
            self.assert_raises(InvalidRun(0), lambda: rows_of(value))
            self.assert_raises(InvalidRun(0), lambda: Ledger.of(value))


class TwoWays(ErrorCase):
    def assert_rows(self, run):
        expected = slow.rows(run.program, run.steps)
        self.assertEqual(repr(rows_of(run)), repr(expected))
        self.assertEqual(repr(Ledger.of(run).rows), repr(expected))
        self.assertEqual(holders(run), tuple(expected))
        for holder in expected:
            self.assertEqual(repr(Ledger.of(run).row(holder)), repr(expected[holder]))

    def test_drawn_runs(self):
        for rng, program in draws(120, seed=7):
            self.assert_rows(draw_run(rng, program, rng.randint(0, 16)))

    def test_behind_failures(self):
        for rng, program in draws(80, seed=8):
            self.assert_rows(draw_history(rng, program, 20)[1])

    def test_four_processes(self):
        for rng, program in draws(40, seed=9, processes=(4, 4), kinds=(3, 4)):
            self.assert_rows(draw_run(rng, program, 18))

    def test_states_lanes_and_losses(self):
        for rng, program in draws(60, seed=10):
            run = draw_run(rng, program, rng.randint(0, 16))
            ledger = Ledger.of(run)
            self.assertEqual(repr(ledger.states), repr(run.states))
            self.assertEqual(repr(ledger.lanes), repr({kind: len(lane) for kind, lane in run.lanes.items()}))
            self.assertEqual(repr(ledger.standing), repr(slow.standing(program, run.steps)))
            self.assertEqual(ledger.standing, standing_of(run))
            self.assertEqual(len(ledger), len(run))
            failed = draw_failed(rng, program)
            self.assertEqual(repr(ledger.loses(*failed)), repr(lost(run, *failed)))

    def test_programs_side_by_side(self):
        for rng, one in draws(40, seed=12, processes=(2, 2), kinds=(1, 2)):
            other = one.renamed({name: name + "z" for name in one.processes + one.kinds})
            for program in (one | other, other | one):
                run = draw_run(rng, program, 20)
                self.assert_rows(run)
                parts = [Ledger(part) for part in (one, other)]
                for step in run:
                    parts[step[0] in other].do(step)
                rows = {**parts[0].rows, **parts[1].rows}
                found = Ledger.of(run).rows
                self.assertEqual(found, rows)
                letters = sorted([holder for holder in rows if holder not in program])
                self.assertEqual(list(found), [*program.processes, *letters])

    def test_a_letter_that_vanishes(self):
        ledger = Ledger(LOSSY)
        ledger.do(("s", 0), ("s", 1), ("s", 0))
        self.assertEqual(ledger.rows, {"s": ({"s": 2}, (("x", 1),)), "t": ({"t": 0}, ())})
        ledger.do(("x", 0))
        self.assertEqual(ledger.row("s"), ({"s": 2}, (("x", 0),)))
        ledger.do(("x", 0))
        self.assertEqual(ledger.row("s"), ({"s": 2}, ()))

    def test_the_letter_behind_moves_up_with_its_row(self):
        program = LOSSY.with_kind("x", ("s", "t", 2, True))
        ledger = Ledger(program)
        ledger.do(("s", 0), ("s", 1), ("s", 0), ("s", 1))
        self.assertEqual(ledger.row(("x", 0)), ({"s": 6}, (("x", 0), ("x", 1))))
        self.assertEqual(ledger.row(("x", 1)), ({"s": 3}, (("x", 1),)))
        ledger.do(("t", 0))
        self.assertEqual(list(ledger.rows), ["s", "t", ("x", 0)])
        self.assertEqual(ledger.row(("x", 0)), ({"s": 3}, (("x", 0),)))


class Joined(ErrorCase):
    def test_greater_prices_and_all_letters(self):
        one, other = ({"b": 7, "a": 0}, (("k", 0), ("m", 1))), ({"b": 3, "c": 2}, (("k", 0), ("l", 10)))
        expected = ({"a": 0, "b": 7, "c": 2}, (("k", 0), ("l", 10), ("m", 1)))
        for found in (joined(one, other), joined(other, one)):
            self.assertEqual(repr(found), repr(expected))
        self.assertEqual(repr(joined(one, one)), repr(({"a": 0, "b": 7}, one[1])))
        self.assertEqual([joined(EMPTY, EMPTY), joined(EMPTY, other)], [EMPTY, other])
        large = ({"zzzzzzzz": 10 ** 60 - 1}, (("m", 10 ** 60 - 1),))
        self.assertEqual(joined(large, EMPTY), large)

    def test_what_was_passed_stays_and_is_not_shared(self):
        one, other = ({"b": 7, "a": 0}, (("k", 0),)), ({"c": 2}, ())
        before = copy.deepcopy((one, other))
        joined(one, other)[0].clear()
        joined(one, EMPTY)[0].clear()
        self.assertEqual(repr((one, other)), repr(before))

    def test_no_rows(self):
        wrong = list(EVERY) + [
            ({}, []), ([], ()), [{}, ()], ({},), ({}, (), ()), ({"A": 0}, ()), ({"a": -1}, ()), ({"a": True}, ()),
            ({"a": 10 ** 60}, ()), ({"a": None}, ()), ({1: 0}, ()), ({("m", 0): 0}, ()), ({}, (("m", -1),)),
            ({}, (("m", 1), ("m", 0))), ({}, (("m", 0), ("m", 0))), ({}, (("m", True),)), ({}, ("m",)), ({}, (("m",),)),
            ({}, (("M", 0),)), ({}, (["m", 0],)), ({}, (("m", 0, 0),)), ({}, ((0, "m"),)), ({}, (("n", 0), ("m", 0))),
            ({}, (("m", 0), 5)), ({}, (("m", 10 ** 60),)), ({"a": 0, "": 1}, ()), ({}, {}), ({}, (("m", None),)),
            ({"a": nested(5)}, ()),
        ]
        for value in wrong:
            self.assert_raises(InvalidOperation(), lambda: joined(value, EMPTY))
            self.assert_raises(InvalidOperation(), lambda: joined(EMPTY, value))


class Ledgers(ErrorCase):
    def test_no_program(self):
        for value in without(EVERY, TALK):
            self.assert_raises(InvalidProgram(), lambda: Ledger(value))

    def test_all_steps_or_none(self):
        for value in EVERY:
            if value == ("a", 0):
                continue
            ledger = Ledger(TALK)
            ledger.do(("a", 0))
            self.assert_raises(InvalidRun(0), lambda: ledger.do(value))
            self.assert_raises(InvalidRun(2), lambda: ledger.do(("b", 0), ("b", 1), value, ("a", 1)))
            self.assertEqual([ledger, len(ledger)], [Ledger.of(Run(TALK, ("a", 0))), 1])
        for steps, index in (((("a", 0),), 0), ((("b", 0), ("b", 0)), 1), ((("ask", 0),), 0), ((("b", False),), 0)):
            self.assert_raises(InvalidRun(index), lambda: ledger.do(*steps))
        self.assertEqual([ledger.do(), ledger.do(("b", 0)), ledger.do(("b", 1), ("a", 1))], [1, 2, 4])

    def test_failed(self):
        ledger = Ledger.of(Run(TALK, ("a", 0)))
        for value in without(EVERY, "a") + ["ask"]:
            self.assert_raises(UnknownName(value), lambda: ledger.loses(value))
            self.assert_raises(UnknownName(value), lambda: ledger.loses("a", "a", value))
        self.assert_raises(InvalidOperation(), lambda: ledger.loses())
        self.assert_raises(InvalidOperation(), lambda: ledger.loses("b", "b"))

    def test_no_holder(self):
        ledger = Ledger.of(Run(TALK, ("a", 0), ("b", 0), ("b", 1)))
        self.assertEqual(ledger.row(("tell", 0)), ({"a": 1, "b": 2}, (("tell", 0),)))
        wrong = [
            ("tell", False), ("tell", 1), ("ask", 0), ["tell", 0], "tell", ("tell",), ("tell", 0, 0), "c", ("a", 0),
        ]
        for value in without(EVERY, "a") + wrong:
            self.assert_raises(InvalidOperation(), lambda: ledger.row(value))
        lossy = Ledger.of(Run(LOSSY, ("s", 0)))
        self.assert_raises(InvalidOperation(), lambda: lossy.row(("x", 0)))

    def test_twins_are_independent(self):
        for rng, program in draws(30, seed=11):
            run = draw_run(rng, program, 10)
            half = len(run) // 2
            ledger = Ledger.of(run.first(half))
            twin = ledger.twin()
            self.assertEqual([twin, len(twin)], [ledger, half])
            twin.do(*run.steps[half:])
            self.assertEqual([ledger, len(ledger)], [Ledger.of(run.first(half)), half])
            self.assertEqual([twin, len(twin)], [Ledger.of(run), len(run)])

    def test_comparing(self):
        ledger = Ledger.of(Run(TALK, ("a", 0)))
        self.assert_equal(ledger, ledger.twin(), True)
        self.assert_equal(ledger, Ledger.of(Run(CALM, ("a", 0))), False)
        self.assert_equal(ledger, Ledger(TALK), False)
        self.assert_equal(Ledger(TALK), Ledger(CALM), False)
        for value in EVERY:
            self.assert_equal(ledger, value, False)
        self.assert_equal(Ledger(TALK), Ledger(TALK), True)

    def test_comparing_drawn_ledgers(self):
        found = {True: 0, False: 0}
        for rng, drawn in draws(30, seed=18):
            program = drawn.priced(0) if rng.random() < 0.5 else drawn
            ledgers = [Ledger.of(draw_run(rng, program, rng.randint(0, 8))) for _ in range(14)]
            told = [repr((one.states, one.lanes, one.standing, one.rows)) for one in ledgers]
            for at, one in enumerate(ledgers):
                for number, other in enumerate(ledgers):
                    expected = told[at] == told[number]
                    self.assert_equal(one, other, expected)
                    found[expected and len(one) != len(other)] += 1
        self.assertGreater(min(found.values()), 30)

    def test_the_number_of_steps_does_not_count(self):
        saving = LOSSY.with_keeping(("s", 0, 1, "save"))
        one, other = Ledger.of(Run(saving, ("s", 1))), Ledger.of(Run(saving, ("s", 1), ("s", 1)))
        self.assert_equal(one, other, True)
        self.assert_equal(one, Ledger(saving), True)
        self.assertEqual([len(one), len(other)], [1, 2])

    def test_prices_and_truth_values_count(self):
        lost = (("s", 0), ("x", 0))
        one, other = Ledger.of(Run(LOSSY, *lost)), Ledger.of(Run(LOSSY, *lost, *lost))
        self.assertEqual(one.standing, other.standing)
        self.assert_equal(one, other, False)
        free = ONCE.priced(0)
        self.assert_equal(Ledger.of(Run(free, ("q", 0))), Ledger(free), False)
        self.assert_equal(Ledger.of(Run(ONCE, ("q", 0))), Ledger.of(Run(ONCE.priced(2), ("q", 0))), False)
        program = LOSSY.with_keeping(("t", 0, 0, None))
        run = Run(program, ("s", 0), ("s", 1), ("t", 0), ("t", 0))
        work = Run(program, ("s", 0), ("s", 1), ("x", 0))
        self.assertNotEqual(Ledger.of(run).standing, Ledger.of(work).standing)
        self.assert_equal(Ledger.of(run), Ledger.of(work), False)
        one = Ledger.of(Run(RING, ("a", 0), ("b", 0), ("b", 1)))
        self.assert_equal(one, Ledger.of(Run(RING, ("a", 0), ("b", 0), ("b", 1), ("b", 1))), True)
        self.assert_equal(one, Ledger.of(Run(RING, ("a", 0), ("b", 0), ("b", 0))), False)

    def test_no_iteration_and_nothing_shared(self):
        ledger = Ledger.of(Run(TALK, ("a", 0)))
        self.assert_no_iteration(ledger)
        self.assert_fixed(ledger, "program states lanes rows standing")
        before = copy.deepcopy([ledger.states, ledger.lanes, ledger.rows])
        ledger.states.clear()
        ledger.lanes["ask"] = 5
        ledger.rows["a"][0].clear()
        ledger.row("a")[0]["b"] = 3
        ledger.loses("a").clear()
        self.assertEqual([ledger.states, ledger.lanes, ledger.rows], before)

    def test_a_run_stays_as_it_is(self):
        run = Run(TALK, ("a", 0))
        Ledger.of(run).do(("b", 0))
        self.assertEqual(run, Run(TALK, ("a", 0)))

    def test_texts(self):
        self.assertEqual(str(Ledger(RING)), "ledger of 0 steps, 3 holders")
        self.assertEqual(str(Ledger.of(Run(LOSSY, ("s", 0), ("t", 1)))), "ledger of 2 steps, 3 holders")


if __name__ == "__main__":
    unittest.main()
