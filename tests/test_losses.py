import unittest

from fallsback.base.machines import Machine
from fallsback.base.programs import Program
from fallsback.errors import InvalidProgram, TooMany, UnknownName
from fallsback.rows import losses as module
from fallsback.rows.ledgers import Ledger, rows_of
from fallsback.rows.losses import greatest_loss, is_loss_paper, loss_paper, losses
from fallsback.rows.standings import first_standing, standings
from fallsback.run.lines import lost
from fallsback.run.runs import Run, each_run
from tests import slow
from tests.cases import ErrorCase
from tests.drawn import draw_history, draw_run, draws, small_draws
from tests.examples import run_examples
from tests.samples import ALONE, CALM, EVERY_PROGRAM, FULL, LOSSY, NAMES, ONCE, OVER, RING, TALK
from tests.values import EVERY, without

EXAMPLE = """
>>> [losses(ONCE), greatest_loss(TALK, "b", "a"), losses(CALM)["a"], loss_paper(ONCE, "q", "p")[2]]
[{'p': {'p': 2, 'q': 0}, 'q': {'p': 5, 'q': 4}}, None, {'a': 0, 'b': 0}, (('p', 0), ('p', 0), ('q', 1))]
>>> paper = loss_paper(TALK, "b", "a")
>>> [paper[0], is_loss_paper(TALK, "b", "a", paper), is_loss_paper(CALM, "b", "a", paper)]
['far', True, False]
"""
FUNCTIONS = (greatest_loss, losses, loss_paper, is_loss_paper)


def pairs(program):
    return [(failed, process) for failed in program.processes for process in program.processes]


class Example(ErrorCase):
    def test_example(self):
        run_examples(self, EXAMPLE, {**NAMES, **{one.__name__: one for one in FUNCTIONS}})

    def test_functions_stand_in_their_file(self):
        for function in FUNCTIONS:
            self.assertEqual(function.__module__, module.__name__)


class Greatest(ErrorCase):
    def test_drawn_programs(self):
        kinds = set()
        for _, program, _ in small_draws(60, seed=18):
            expected = slow.greatest_losses(program)
            found = losses(program)
            self.assertEqual(list(found), list(program.processes))
            for failed, process in pairs(program):
                self.assertEqual(list(found[failed]), list(program.processes))
                loss = expected[failed, process]
                kinds.add("far" if loss == slow.ENDLESS else "none" if loss == 0 else "near")
                self.assertEqual(found[failed][process], None if loss == slow.ENDLESS else loss)
                self.assertEqual(greatest_loss(program, failed, process), found[failed][process])
        self.assertEqual(kinds, {"far", "near", "none"})

    def test_no_drawn_run_costs_more(self):
        for rng, program, _ in small_draws(60, seed=19):
            found = losses(program)
            for _ in range(4):
                run = draw_run(rng, program, 25) if rng.random() < 0.5 else draw_history(rng, program, 25)[1]
                rows = rows_of(run)
                for failed, process in pairs(program):
                    if found[failed][process] is not None:
                        self.assertLessEqual(lost(run, failed)[process], found[failed][process])
                        self.assertLessEqual(rows[failed][0].get(process, 0), found[failed][process])

    def test_some_run_costs_as_much(self):
        for program, most in ((ONCE, 5), (CALM, 5), (ALONE, 4), (LOSSY, 6)):
            for failed, process in pairs(program):
                greatest = greatest_loss(program, failed, process)
                found = max(lost(run, failed)[process] for many in range(most) for run in each_run(program, many))
                if greatest is not None:
                    self.assertEqual(found, greatest)

    def test_steps_without_a_price_cost_nothing(self):
        for program in EVERY_PROGRAM:
            free = program.priced(0)
            self.assertEqual(losses(free), {name: {other: 0 for other in free.processes} for name in free.processes})

    def test_greater_prices_cause_no_smaller_losses(self):
        for _, program, _ in small_draws(20, seed=20):
            dear, cheap = losses(program.priced(3)), losses(program.priced(2))
            for failed, process in pairs(program):
                one, other = cheap[failed][process], dear[failed][process]
                self.assertTrue(other is None or one <= other)
                self.assertEqual(one is None, other is None)

    def test_what_is_not_true(self):
        # A process that takes nothing, and so saves with each take, can cause losses without bound.
        taking = TALK["a"].with_state(0, *TALK["a"][0], ("take", "new", 0, 1, "save"))
        program = Program(
            {"a": taking, "b": TALK["b"], "r": Machine.free(("send", "new"), price=1)},
            {"ask": TALK["ask"], "tell": TALK["tell"], "new": ("r", "a", 1, False)},
        )
        self.assertEqual(losses(program)["r"], {"a": None, "b": None, "r": None})
        # Letters of a kind that is made not sure can vanish, so that there is always room for another one.
        full = Program({"c": Machine(()), "d": Machine.free(("send", "k"), price=1)}, {"k": ("d", "c", 1, True)})
        self.assertEqual(losses(full)["d"], {"c": 0, "d": 1})
        self.assertEqual(losses(full.with_kind("k", ("d", "c", 1, False)))["d"], {"c": 0, "d": None})


class Papers(ErrorCase):
    def test_papers_are_papers(self):
        for _, program, world in small_draws(30, seed=21, most=40):
            found = losses(program)
            for failed, process in pairs(program):
                paper = loss_paper(program, failed, process)
                self.assertIs(is_loss_paper(program, failed, process, paper), True)
                self.assertIs(slow.is_loss_paper(program, failed, process, paper), True)
                self.assertEqual(paper[0], "far" if found[failed][process] is None else "near")
                self.assertEqual(loss_paper(program, failed, process), paper)

    def test_near_papers_have_their_form(self):
        for _, program, world in small_draws(30, seed=22):
            for failed, process in pairs(program):
                paper = loss_paper(program, failed, process)
                if paper[0] != "near":
                    continue
                _, table, steps = paper
                self.assertEqual(list(table), sorted(world, key=repr))
                self.assertEqual(lost(Run(program, *steps), failed)[process], greatest_loss(program, failed, process))
                leading = {(here, (failed, process)) for here in world if (failed, process) in slow.entries(here)}
                many = -1
                while many < len(leading):
                    many = len(leading)
                    leading |= {(here, one) for here in world for _, later, leads in world[here]
                                for one, other, _ in leads if (later, other) in leading}
                for here in table:
                    self.assertEqual(list(table[here]), [one for one in slow.entries(here) if (here, one) in leading])

    def test_far_papers_cost_any_number(self):
        for program in (TALK, LOSSY, RING):
            for failed, process in pairs(program):
                paper = loss_paper(program, failed, process)
                if paper[0] != "far":
                    continue
                _, holder, u, v, w = paper
                for many in (0, 1, 2, 5, 40):
                    run = Run(program, *(u + v * many + w))
                    self.assertGreaterEqual(lost(run, failed)[process], many)
                    self.assertGreaterEqual(Ledger.of(run).loses(failed)[process], many)
                self.assertIs(is_loss_paper(program, failed, process, ("far", holder, u + v, v * 300, w)), True)

    def test_drawn_far_papers_cost_any_number(self):
        for _, program, _ in small_draws(30, seed=23):
            for failed, process in pairs(program):
                paper = loss_paper(program, failed, process)
                if paper[0] == "far":
                    _, _, u, v, w = paper
                    self.assertGreaterEqual(lost(Run(program, *(u + v * 30 + w)), failed)[process], 30)

    def test_a_paper_is_one_for_its_processes_only(self):
        for program in (TALK, CALM, ONCE, LOSSY):
            for failed, process in pairs(program):
                paper = loss_paper(program, failed, process)
                for other in (TALK, CALM, ONCE, LOSSY):
                    for names in pairs(other):
                        self.assertIs(is_loss_paper(other, *names, paper), slow.is_loss_paper(other, *names, paper))

    def test_greater_and_further_integers_are_right_as_well(self):
        _, table, steps = loss_paper(ONCE, "q", "p")
        full = {here: {entry: 9 for entry in slow.entries(here)} for here in table}
        for here in full:
            full[here].update(table[here])
        value = ("near", full, steps)
        self.assertIs(is_loss_paper(ONCE, "q", "p", value), slow.is_loss_paper(ONCE, "q", "p", value))
        for margin in (0, 1):
            every = {here: {entry: self.row_price(here, entry) + margin for entry in slow.entries(here)}
                     for here in table}
            self.assertIs(is_loss_paper(ONCE, "q", "p", ("near", every, steps)), margin == 0)
        backward = {here: dict(list(table[here].items())[::-1]) for here in list(table)[::-1]}
        self.assertIs(is_loss_paper(ONCE, "q", "p", ("near", backward, steps)), True)

    def row_price(self, here, entry):
        """The greatest price of this entry in any run of ONCE, each of which has at most three steps."""
        prices = [rows_of(run)[entry[0]][0][entry[1]] for many in range(4) for run in each_run(ONCE, many)
                  if slow.standing(ONCE, run.steps) == here]
        return max(prices)


class Judging(ErrorCase):
    def assert_judged(self, program, failed, process, value):
        before = repr(value)
        found = is_loss_paper(program, failed, process, value)
        self.assertIs(found, slow.is_loss_paper(program, failed, process, value), value)
        self.assertEqual(repr(value), before)
        return found

    def changed(self, table, here, entry, number):
        """The table with another integer of this entry, or without it."""
        found = {key: dict(row) for key, row in table.items()}
        if number is None:
            found[here].pop(entry, None)
        else:
            found[here][entry] = number
        return found

    def near_tables(self, program, table):
        first = first_standing(program)
        for here in table:
            yield {key: row for key, row in table.items() if key != here}
            yield {list(here)[0] if key == here else key: row for key, row in table.items()}
            yield {**table, here: list(table[here].items())}
            yield {**table, here: {**table[here], ("z", "a"): 0}}
            yield {**table, here: {**table[here], 0: 0}}
            yield {**table, here: {**table[here], None: 0}}
            for entry in slow.entries(here):
                right = table[here].get(entry)
                yield self.changed(table, here, entry, None)
                for number in (0, 1, 10 ** 60 - 1, 10 ** 60, -1, True, False, "0", ()):
                    yield self.changed(table, here, entry, number)
                # A string of two letters looks like a pair of one-letter names.
                if isinstance(entry[0], str):
                    yield self.changed(self.changed(table, here, entry, None), here, "".join(entry), right or 0)
                if right is not None:
                    yield self.changed(table, here, entry, right + 1)
                    yield self.changed(table, here, entry, right - 1)
                    yield self.changed(self.changed(table, here, entry, None), here, list(entry)[0], right)
                    yield self.changed(self.changed(table, here, entry, None), here, entry + (0,), right)
        yield {**table, first[:3]: {}}
        yield {**table, first + (0,): {}}
        yield {}
        yield tuple(table.items())
        yield list(table)

    def test_values_near_papers_with_tables(self):
        found = {True: 0, False: 0}
        for program in (CALM, ONCE, ALONE):
            for failed, process in pairs(program):
                _, table, steps = loss_paper(program, failed, process)
                for other in self.near_tables(program, table):
                    found[self.assert_judged(program, failed, process, ("near", other, steps))] += 1
                for other in (steps[:-1], steps + steps, list(steps), steps[::-1], (), None, tuple(map(list, steps))):
                    found[self.assert_judged(program, failed, process, ("near", table, other))] += 1
                for run in each_run(program, 3):
                    found[self.assert_judged(program, failed, process, ("near", table, run.steps))] += 1
        self.assertGreater(min(found.values()), 30)

    def test_drawn_tables(self):
        found = {True: 0, False: 0}
        for rng, program, _ in small_draws(40, seed=24, most=25):
            failed, process = rng.choice(pairs(program))
            paper = loss_paper(program, failed, process)
            if paper[0] == "near":
                tables = list(self.near_tables(program, paper[1]))
                for other in rng.sample(tables, min(30, len(tables))):
                    found[self.assert_judged(program, failed, process, ("near", other, paper[2]))] += 1
        self.assertGreater(min(found.values()), 20)

    def near_steps(self, program, steps):
        for at, step in enumerate(steps):
            yield steps[:at] + steps[at + 1:]
            yield steps[:at] + (step,) + steps[at:]
            yield steps[:at] + (list(step),) + steps[at + 1:]
            yield steps[:at] + ((step[0], bool(step[1])),) + steps[at + 1:]
            yield steps[:at] + ((step[0], step[1] + 1),) + steps[at + 1:]
        yield from ((), steps + steps, list(steps), steps[::-1], None, 0)

    def near_far_papers(self, program, paper):
        _, holder, u, v, w = paper
        letters = tuple((kind, at) for kind in program.kinds for at in (0, 1, False))
        for other in program.processes + letters + (None, u):
            yield ("far", other, u, v, w)
        for steps in self.near_steps(program, u):
            yield ("far", holder, steps, v, w)
        for steps in self.near_steps(program, v):
            yield ("far", holder, u, steps, w)
        for steps in self.near_steps(program, w):
            yield ("far", holder, u, v, steps)
        whole = u + v + w
        for first in range(len(whole) + 1):
            for second in range(first, len(whole) + 1):
                yield ("far", holder, whole[:first], whole[first:second], whole[second:])

    def test_values_near_papers_with_a_way_round(self):
        found = {True: 0, False: 0}
        for program in (TALK, LOSSY):
            for failed, process in pairs(program):
                paper = loss_paper(program, failed, process)
                if paper[0] == "far":
                    for other in self.near_far_papers(program, paper):
                        found[self.assert_judged(program, failed, process, other)] += 1
        self.assertGreater(min(found.values()), 30)

    def test_drawn_ways_round(self):
        found = {True: 0, False: 0}
        for rng, program, _ in small_draws(60, seed=25, most=40):
            failed, process = rng.choice(pairs(program))
            paper = loss_paper(program, failed, process)
            if paper[0] == "far":
                for other in self.near_far_papers(program, paper):
                    for names in ((failed, process), rng.choice(pairs(program))):
                        found[self.assert_judged(program, *names, other)] += 1
        self.assertGreater(min(found.values()), 50)

    def test_a_way_on_that_is_possible_elsewhere_only(self):
        # Behind u v the steps of w are possible, behind u they are not: then the standings differ, and it is no paper.
        value = ("far", "a", (), (("a", 0),), (("b", 0),))
        self.assertIs(self.assert_judged(TALK, "a", "b", value), False)

    def test_other_forms(self):
        for program in (TALK, ONCE):
            paper = loss_paper(program, program.processes[1], program.processes[0])
            names = (program.processes[1], program.processes[0])
            forms = (list(paper), paper[1:], paper + ((),), paper[:-1], (paper,), paper[::-1], paper, ())
            words = tuple((word,) + paper[1:] for word in ("fear", "near", "far", "", None, True))
            for other in forms + words:
                self.assertIs(is_loss_paper(program, *names, other), other == paper)

    def test_other_values(self):
        for value in EVERY:
            for other in (value, ("near", value, ()), ("near", {}, value), ("far", value, (), (), ()), (value, {}, ()),
                          ("far", "a", value, value, value), ("near", {first_standing(TALK): value}, ())):
                self.assertIs(is_loss_paper(TALK, "a", "b", other), False)
                self.assertIs(is_loss_paper(CALM, "a", "b", other), False)

    def test_truth_values_in_keys_are_no_integers(self):
        _, table, steps = loss_paper(CALM, "a", "a")
        items = list(table.items())
        for at, (here, row) in enumerate(items):
            for other in (((0, False),) + here[1:], here[:2] + ((1, 1),) + here[3:]):
                if other == here:
                    changed = dict(items[:at] + [(other, row)] + items[at + 1:])
                    self.assertEqual(changed, table)
                    self.assertIs(is_loss_paper(CALM, "a", "a", ("near", changed, steps)), False)
        _, table, steps = loss_paper(ONCE, "q", "p")
        here = [here for here in table if (("m", 0), "p") in table[here]][0]
        for entry, expected in (((("m", 0), "p"), True), ((("m", False), "p"), False)):
            rest = self.changed(table, here, (("m", 0), "p"), None)
            changed = self.changed(rest, here, entry, table[here][("m", 0), "p"])
            self.assertEqual(changed, table)
            self.assertIs(is_loss_paper(ONCE, "q", "p", ("near", changed, steps)), expected)


class Errors(ErrorCase):
    def test_no_program(self):
        for value in without(EVERY, TALK):
            self.assert_raises(InvalidProgram(), lambda: losses(value))
            for call in (greatest_loss, loss_paper, lambda *rest: is_loss_paper(*rest, 0)):
                self.assert_raises(InvalidProgram(), lambda: call(value, 0, 0))

    def test_no_process(self):
        for call in (greatest_loss, loss_paper, lambda *rest: is_loss_paper(*rest, 0)):
            for value in without(EVERY, "a") + ["ask"]:
                for program in (TALK, OVER):
                    self.assert_raises(UnknownName(value), lambda: call(program, value, 0))
                    self.assert_raises(UnknownName(value), lambda: call(program, "b", value))

    def test_too_many_standings(self):
        for call in (greatest_loss, loss_paper):
            self.assert_raises(TooMany(2000), lambda: call(OVER, "a", "a"))
        self.assert_raises(TooMany(2000), lambda: losses(OVER))
        self.assertEqual(losses(FULL)["a"], {"a": None, "b": None, "c": 0, "d": 0})
        near = loss_paper(FULL, "a", "c")
        self.assertEqual([list(near[1]), near[2]], [list(standings(FULL)), ()])
        self.assertIs(is_loss_paper(FULL, "a", "c", near), True)

    def test_papers_without_standings_are_judged(self):
        table = {here: {} for here in slow.explore(OVER)}
        self.assertIs(is_loss_paper(OVER, "b", "d", ("near", table, ())), False)
        # Behind its take the last process works round and round without a save.
        for v, expected in (((("d", 1),), True), ((), False), ((("d", 0),), False)):
            value = ("far", "d", (("c", 0), ("d", 0)), v, ())
            self.assertIs(slow.is_loss_paper(OVER, "d", "d", value), expected)
            self.assertIs(is_loss_paper(OVER, "d", "d", value), expected)

    def test_programs_stay(self):
        program = TALK.with_keeping()
        losses(program), loss_paper(program, "a", "b"), greatest_loss(program, "a", "b")
        self.assertEqual(program, TALK)
        losses(program)["a"].clear()
        self.assertEqual(len(losses(program)["a"]), 2)
        paper = loss_paper(ONCE, "q", "p")
        paper[1].clear()
        self.assertEqual(len(loss_paper(ONCE, "q", "p")[1]), 7)


if __name__ == "__main__":
    unittest.main()
