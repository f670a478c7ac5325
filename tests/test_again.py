"""Answers to what is asked again, and to what goes on from an earlier answer."""

import copy
import unittest
from unittest import mock

from fallsback.base.programs import Program
from fallsback.errors import TooMany
from fallsback.later import outputs as outputs_module
from fallsback.later.outputs import is_settled, needed, recall, unsettling
from fallsback.later.useless import useless_run
from fallsback.plan.marks import is_bounded
from fallsback.rows import losses as losses_module
from fallsback.rows import standings as standings_module
from fallsback.rows.ledgers import Ledger
from fallsback.rows.losses import greatest_loss, is_loss_paper, loss_paper, losses
from fallsback.rows.standings import is_touch_paper, run_to, standing_of, standings, steps_at, touch_paper, touches
from fallsback.run import runs as runs_module
from fallsback.run.histories import History, behind_failure
from fallsback.run.lines import arrows, places
from fallsback.run.runs import Run, each_run
from tests.cases import ErrorCase
from tests.drawn import draw_history, draw_run, draws, small_draws
from tests.samples import EVERY_PROGRAM, FULL, LATER, LOSSY, OVER, TALK


def fresh(program):
    """An equal program that knows nothing yet."""
    return Program({name: program[name] for name in program.processes}, {kind: program[kind] for kind in program.kinds})


def asked(program):
    """The answers to all questions about the program, in a new list."""
    names = program.processes
    every = standings(program)
    found = [every, touches(program), losses(program), is_bounded(program), is_bounded(program, 3)]
    for here in every[:10]:
        found += [steps_at(program, here), run_to(program, here)]
    for failed in names:
        for process in names:
            paper = loss_paper(program, failed, process)
            found += [greatest_loss(program, failed, process), paper, is_loss_paper(program, failed, process, paper)]
            if failed != process:
                paper = touch_paper(program, failed, process)
                found += [paper, is_touch_paper(program, failed, process, paper)]
    return found + [useless_run(program, *mark[:3]) for mark in program.marks]


def spoil(value):
    """Empties all dicts within the value."""
    for part in value if isinstance(value, (list, tuple)) else list(value.values()) if isinstance(value, dict) else ():
        spoil(part)
    if isinstance(value, dict):
        value.clear()


def all_of(run):
    """All that a run tells."""
    program = run.program
    return repr([
        run.steps, run.states, run.lanes, run.possible, [run.own(name) for name in program.processes],
        [run.moves_of(name) for name in program.processes], [run.letters(kind) for kind in program.kinds], len(run), str(run),
        [places(run, name) for name in program.processes], arrows(run), standing_of(run), Ledger.of(run).rows, list(run),
    ])


class Again(ErrorCase):
    def test_answers_stay_and_are_not_shared(self):
        programs = EVERY_PROGRAM + tuple(program for _, program, _ in small_draws(12, seed=120))
        for program in programs:
            known, expected = fresh(program), repr(asked(fresh(program)))
            for _ in range(3):
                answers = asked(known)
                self.assertEqual(repr(answers), expected)
                spoil(answers)
            self.assertEqual(known, program)
            self.assertEqual(str(known), str(program))

    def test_what_is_known_does_not_count(self):
        known = fresh(LOSSY)
        asked(known)
        self.assert_equal(known, fresh(LOSSY), True)
        for other in (known.with_keeping(("s", 0, 0, "save")), known.priced(3), known.renamed({"s": "r"})):
            self.assertEqual(repr(asked(other)), repr(asked(fresh(other))))

    def test_too_many_stay_too_many(self):
        program = fresh(OVER)
        for _ in range(3):
            for call in (standings, touches, losses, is_bounded):
                self.assert_raises(TooMany(2000), lambda: call(program))

    def test_standings_are_looked_for_once(self):
        program = fresh(LOSSY)
        expected = repr(asked(program))
        with mock.patch.object(standings_module, "Atlas", side_effect=AssertionError):
            with mock.patch.object(losses_module, "Entries", side_effect=AssertionError):
                self.assertEqual(repr(asked(program)), expected)
                self.assertRaises(AssertionError, lambda: standings(fresh(LOSSY)))

    def test_needed_places_are_looked_for_once(self):
        for rng, program, _ in small_draws(10, seed=121):
            run = draw_run(rng, program, 10)
            other = Run(program, *run)
            for _ in range(2):
                self.assertEqual(needed(run), needed(other))
                needed(run).clear()
                for name in program.processes:
                    for place in places(run, name):
                        self.assertEqual(recall(run, name, place), recall(Run(program, *run), name, place))
            for at, step in enumerate(run):
                if step[0] in program.processes:
                    self.assertEqual(unsettling(run, at), unsettling(Run(program, *run), at))


    def test_needed_places_behind_longer_runs(self):
        for rng, program, _ in small_draws(20, seed=125):
            known, run = fresh(program), Run(fresh(program))
            for _ in range(8):
                run = Run(known, *run)
                other = Run(fresh(program), *run)
                self.assertEqual(needed(run), needed(other))
                for at, step in enumerate(run):
                    if step[0] in program.processes:
                        self.assertEqual(is_settled(run, at), is_settled(other, at))
                for name in program.processes:
                    for place in places(run, name):
                        # Any events would do, but equal calls return equal ones.
                        self.assertEqual(recall(run, name, place), recall(other, name, place))
                failed = rng.choice(program.processes)
                run = run.longer(rng.choice(run.possible)) if run.possible else behind_failure(run, failed)

    def test_layouts_are_looked_for_once(self):
        program = fresh(LATER)
        expected = needed(Run(program))
        with mock.patch.object(outputs_module, "Outlook", side_effect=AssertionError):
            for run in list(each_run(program, 2)):
                self.assertEqual(list(needed(run)), list(expected))
            self.assertRaises(AssertionError, lambda: needed(Run(fresh(LATER))))

    def test_too_many_layouts_stay_too_many(self):
        program = fresh(FULL)
        run = Run(program, ("a", 1))
        for _ in range(2):
            self.assert_raises(TooMany(2000), lambda: needed(run))
            self.assert_raises(TooMany(2000), lambda: needed(Run(program, ("a", 1))))
            self.assert_raises(TooMany(2000), lambda: recall(run, "a", 0))
            self.assert_raises(TooMany(2000), lambda: is_settled(run, 0))


class GoneOn(ErrorCase):
    def test_longer_and_first_runs(self):
        for rng, program in draws(60, seed=122):
            run = draw_run(rng, program, rng.randint(0, 14))
            before = all_of(run)
            many, more = rng.randint(0, len(run)), rng.randint(0, len(run))
            first = run.first(many)
            self.assertEqual(all_of(first), all_of(Run(program, *run.steps[:many])))
            self.assertEqual(all_of(first.longer(*run.steps[many:])), before)
            self.assertEqual(all_of(first + Run(program)), all_of(first))
            self.assertEqual(all_of(run.first(max(many, more)).first(min(many, more))),
                             all_of(Run(program, *run.steps[:min(many, more)])))
            for step in run.possible:
                self.assertEqual(all_of(run.longer(step)), all_of(Run(program, *run.steps, step)))
            self.assertEqual(all_of(run), before)

    def test_two_runs_from_one(self):
        run = Run(TALK, ("a", 0), ("b", 0))
        one, other = run.longer(("a", 0)), run.longer(("b", 1))
        self.assertEqual([all_of(one), all_of(other)], [all_of(Run(TALK, *one)), all_of(Run(TALK, *other))])
        self.assertEqual(all_of(run), all_of(Run(TALK, ("a", 0), ("b", 0))))

    def test_listed_runs(self):
        for program in EVERY_PROGRAM:
            for run in list(each_run(program, 4))[:60]:
                self.assertEqual(all_of(run), all_of(Run(program, *run)))

    def test_longer_and_first_histories(self):
        for rng, program in draws(60, seed=123):
            events, _ = draw_history(rng, program, rng.randint(0, 16))
            whole = History(program, *events)
            before = copy.deepcopy([whole.events, whole.falls, whole.losses, all_of(whole.run)])
            for many in range(len(events) + 1):
                expected = History(program, *events[:many])
                for found in (whole.first(many), History(program).longer(*events[:many])):
                    self.assertEqual([found.events, found.falls, found.losses, str(found)],
                                     [expected.events, expected.falls, expected.losses, str(expected)])
                    self.assertEqual(all_of(found.run), all_of(expected.run))
                    again = found.longer(*events[many:])
                    self.assertEqual([again.events, again.falls, again.losses, all_of(again.run)], before)
            self.assertEqual([whole.events, whole.falls, whole.losses, all_of(whole.run)], before)

    def test_earlier_steps_are_not_played_again(self):
        run = Run(TALK, *[("a", 0), ("b", 0), ("b", 1), ("a", 1)] * 100)
        history = History(TALK, *run)
        with mock.patch.object(runs_module, "turn_at", wraps=runs_module.turn_at) as turn_at:
            run.longer(("a", 0), ("b", 0))
            self.assertEqual(turn_at.call_count, 2)
            run.first(399), run.first(3), run.longer()
            self.assertEqual(turn_at.call_count, 2)
            history.longer(("a", 0))
            self.assertEqual(turn_at.call_count, 3)

    def test_ledgers(self):
        for rng, program in draws(40, seed=124):
            run = draw_run(rng, program, 16)
            many = rng.randint(0, len(run))
            ledger = Ledger.of(run.first(many))
            twin = ledger.twin()
            ledger.do(*run.steps[many:])
            self.assert_equal(ledger, Ledger.of(run), True)
            self.assertEqual([ledger.rows, len(ledger), ledger.standing], [Ledger.of(run).rows, len(run), standing_of(run)])
            self.assert_equal(twin, Ledger.of(run.first(many)), True)


if __name__ == "__main__":
    unittest.main()
