import copy
import unittest

from fallsback.desk import desk as module
from fallsback.desk.desk import Desk
from fallsback.errors import (
    InvalidNumber, InvalidOperation, InvalidProgram, InvalidRun, Needed, NothingToUndo, TooMany, UnknownName,
)
from fallsback.later.outputs import is_settled, needed
from fallsback.run.histories import History, behind_failure
from fallsback.run.lines import fall_line, places
from fallsback.run.runs import Run
from tests import slow
from tests.cases import ErrorCase
from tests.drawn import draws, has_few_standings
from tests.examples import raised, run_examples
from tests.samples import ALONE, CALM, EVERY_PROGRAM, FULL, LOSSY, NAMES, ONCE, RING, TALK
from tests.values import EVERY, without

EXAMPLE = """
>>> desk = Desk(ONCE)
>>> [len(desk.do(("p", 0), ("p", 0), ("q", 0))), desk.release(), desk.kept, str(desk)]
[3, (), {'p': (0, 2), 'q': (0,)}, 'desk behind 3 steps, 1 outputs waiting']
>>> desk.forget("p", 0)
raises Needed(0)
>>> [len(desk.fail("q")), desk.costs, ("q", 1) in desk, desk.events[2:], desk.undo(), len(desk), desk.redo()]
[2, {'p': 0, 'q': 1}, True, (('q', 0), ('q',)), 2, 3, 3]
>>> safe = Desk(ONCE.with_keeping(("q", 0, 1, "save")))
>>> [len(safe.do(("p", 0), ("p", 0), ("q", 1))), safe.release(), safe.sweep(), safe.kept, safe.waiting]
[3, (('p', 0),), 2, {'p': (2,), 'q': (1,)}, ()]
"""
PROPERTIES = "program run events kept released waiting costs"


def content(desk):
    """All that the properties tell."""
    return repr((desk.run.steps, desk.events, desk.kept, desk.released, desk.waiting, desk.costs))


class Record:
    """A plain record of what a desk should have, with all that it had before."""

    def __init__(self, program):
        self.program = program
        self.pages = [((), (), {name: [0] for name in program.processes}, [], {name: 0 for name in program.processes})]
        self.at = 0

    def write(self, *page):
        self.pages = self.pages[:self.at + 1] + [copy.deepcopy(page)]
        self.at += 1

    def page(self):
        return copy.deepcopy(self.pages[self.at])

    def told(self):
        steps, events, kept, released, costs = self.page()
        waiting = [output for output in self.outputs(steps) if output not in released]
        return repr((steps, events, {name: tuple(kept[name]) for name in kept}, tuple(released), tuple(waiting), costs))

    def outputs(self, steps):
        told = slow.play(self.program, steps)[2]
        return sorted((name, number) for name, number, move, _, _ in told if name and move[0] == "output")

    def do(self, *steps):
        old, events, kept, released, costs = self.page()
        told = slow.play(self.program, old + steps)[2]
        for name in kept:
            own = sum(1 for step in old if step[0] == name)
            kept[name] += [place for place in slow.places(told, name) if place > own]
        self.write(old + steps, events + steps, kept, released, costs)

    def fail(self, *failed):
        steps, events, kept, released, costs = self.page()
        told = slow.play(self.program, steps)[2]
        line, lost = slow.fall_line(self.program, told, failed), slow.lost(self.program, told, failed)
        for name in kept:
            # Whatever fails, the place to which the process goes back is a kept one.
            own = len(slow.own_moves(told, name))
            assert line[name] in kept[name] or line[name] == own
            kept[name] = [place for place in kept[name] if place <= line[name]]
            assert all(number < line[name] for other, number in released if other == name)
            costs[name] += lost[name]
        self.write(slow.left(self.program, steps, failed), events + (tuple(sorted(failed)),), kept, released, costs)

    def needed(self):
        return needed(Run(self.program, *self.page()[0]))

    def forget(self, process, place):
        steps, events, kept, released, costs = self.page()
        kept[process].remove(place)
        self.write(steps, events, kept, released, costs)

    def sweep(self):
        steps, events, kept, released, costs = self.page()
        must = self.needed()
        many = sum(len(kept[name]) for name in kept)
        kept = {name: [place for place in kept[name] if place in must[name]] for name in kept}
        self.write(steps, events, kept, released, costs)
        return many - sum(len(kept[name]) for name in kept)

    def release(self):
        steps, events, kept, released, costs = self.page()
        run = Run(self.program, *steps)
        found = [(name, number) for name, number in self.outputs(steps) if (name, number) not in released
                 and is_settled(run, run.own(name)[number])]
        self.write(steps, events, kept, sorted(released + found), costs)
        return tuple(found)


class DeskCase(ErrorCase):
    def assert_unchanged(self, desk, call):
        """The call raises an error and has no effect; the error."""
        before, undone = content(desk), self.undone(desk)
        error = raised(call)
        self.assertEqual([content(desk), self.undone(desk)], [before, undone])
        return error

    def undone(self, desk):
        """How many calls can be undone, and how many can be done again."""
        back = desk.undo(many=0)
        many = 0
        while True:
            try:
                desk.redo(many=many)
            except NothingToUndo:
                return back, many - 1
            desk.undo(many=many)
            many += 1


class Example(DeskCase):
    def test_example(self):
        run_examples(self, EXAMPLE, {**NAMES, "Desk": Desk})

    def test_all_stands_where_it_is_listed(self):
        self.assert_listed(
            module, Desk,
            "__init__ do fail forget sweep release program run events kept released waiting costs undo redo trial "
            "during twin __contains__ __iter__ __len__ __eq__ __str__",
        )

    def test_the_beginning(self):
        for program in EVERY_PROGRAM:
            desk = Desk(program)
            names = program.processes
            self.assertEqual([desk.program, desk.run, desk.events, desk.released, desk.waiting],
                             [program, Run(program), (), (), ()])
            self.assertEqual([desk.kept, desk.costs], [{name: (0,) for name in names}, {name: 0 for name in names}])
            self.assertEqual([len(desk), list(desk), str(desk)], [0, [], "desk behind 0 steps, 0 outputs waiting"])
            self.assert_raises(NothingToUndo(1), desk.undo)
            self.assert_raises(NothingToUndo(1), desk.redo)
        self.assert_fixed(Desk(TALK), PROPERTIES)

    def test_no_program(self):
        for value in without(EVERY, TALK):
            self.assert_raises(InvalidProgram(), lambda: Desk(value))


class Drawn(DeskCase):
    def steps_on(self, rng, desk):
        run = desk.run
        for _ in range(rng.randint(0, 4)):
            if run.possible:
                run = run.longer(rng.choice(run.possible))
        return run.steps[len(desk):]

    def call_both(self, rng, desk, record):
        """One call of the desk and of the record."""
        word = rng.choice(["do"] * 6 + ["fail", "fail", "forget", "sweep", "release", "undo", "redo", "trial", "during"])
        if word == "do":
            steps = self.steps_on(rng, desk)
            self.assertEqual(desk.do(*steps).steps, record.page()[0] + steps)
            record.do(*steps)
        elif word == "fail":
            failed = rng.sample(desk.program.processes, rng.randint(1, len(desk.program)))
            expected = behind_failure(desk.run, *failed)
            self.assertEqual(desk.fail(*failed), expected)
            record.fail(*failed)
        elif word == "forget":
            self.forget_both(rng, desk, record)
        elif word in ("sweep", "release"):
            if word == "sweep":
                self.assertEqual(desk.sweep(), record.sweep())
            else:
                self.assertEqual(desk.release(), record.release())
        elif word in ("undo", "redo"):
            self.go_both(rng, desk, record, word)
        else:
            self.try_both(rng, desk, record, word)

    def forget_both(self, rng, desk, record):
        name = rng.choice(desk.program.processes)
        place = rng.choice(desk.kept[name])
        if place in record.needed()[name]:
            self.assert_raises(Needed(place), lambda: desk.forget(name, place))
        else:
            self.assertIsNone(desk.forget(name, place))
            record.forget(name, place)

    def go_both(self, rng, desk, record, word):
        most = record.at if word == "undo" else len(record.pages) - 1 - record.at
        many = rng.randint(0, 3)
        call = desk.undo if word == "undo" else desk.redo
        if many > most:
            self.assert_raises(NothingToUndo(many), lambda: call(many=many))
            return
        record.at += -many if word == "undo" else many
        self.assertEqual(call() if many == 1 else call(many=many), record.at)

    def try_both(self, rng, desk, record, word):
        """A block on a desk, and perhaps a block in it, whose end may be an error."""
        before = content(desk), self.undone(desk)
        inner = copy.deepcopy(record)

        def block(same):
            self.assertIs(same, desk)
            for _ in range(rng.randint(0, 3)):
                self.call_both(rng, same, inner)
            if rng.random() < 0.4:
                raise KeyError("block")
            return 17

        try:
            if word == "during":
                self.assertEqual(desk.during(block), 17)
            else:
                with desk.trial() as same:
                    block(same)
        except KeyError:
            pass
        self.assertEqual((content(desk), self.undone(desk)), before)

    def wrong_call(self, rng, desk):
        """A call with a wrong argument, which changes nothing."""
        name = rng.choice(desk.program.processes)
        calls = (
            lambda: desk.do((name, 9)), lambda: desk.do(*desk.run.possible[:1], None), lambda: desk.fail(),
            lambda: desk.fail(name, name), lambda: desk.fail(name, "zz"), lambda: desk.forget(name, 99),
            lambda: desk.forget("zz", 0), lambda: desk.undo(many=99), lambda: desk.redo(many=-1),
            lambda: desk.undo(many=True), lambda: desk.forget(name, None),
        )
        self.assert_unchanged(desk, rng.choice(calls))

    def test_against_a_plain_record(self):
        many = 0
        for rng, program in draws(120, seed=90):
            if not has_few_standings(program, 60):
                continue
            many += 1
            desk, record, twins = Desk(program), Record(program), []
            for _ in range(rng.randint(5, 25)):
                self.call_both(rng, desk, record)
                self.assertEqual(content(desk), record.told())
                self.assertEqual(desk.undo(many=0), record.at)
                if rng.random() < 0.3:
                    self.wrong_call(rng, desk)
                if rng.random() < 0.1:
                    twins.append((desk.twin(), content(desk), self.undone(desk)))
            for twin, before, undone in twins:
                self.assertEqual([content(twin), self.undone(twin)], [before, undone])
            self.assertEqual(History(program, *desk.events).run, desk.run)
            self.assertEqual(History(program, *desk.events).losses, desk.costs)
        self.assertGreater(many, 50)

    def test_swept_desks_fall_to_kept_places(self):
        for rng, program in draws(120, seed=91):
            if not has_few_standings(program, 40):
                continue
            desk = Desk(program)
            for _ in range(20):
                steps = self.steps_on(rng, desk)
                desk.do(*steps)
                desk.sweep()
                desk.release()
                failed = rng.sample(program.processes, rng.randint(1, len(program)))
                line = fall_line(desk.run, *failed)
                for name in program.processes:
                    self.assertTrue(line[name] in desk.kept[name] or line[name] == len(desk.run.own(name)))
                    self.assertTrue(all(number < line[name] for other, number in desk.released if other == name))
                if rng.random() < 0.5:
                    released = desk.released
                    desk.fail(*failed)
                    self.assertEqual(desk.released, released)


class Calls(DeskCase):
    def test_all_steps_or_none(self):
        desk = Desk(TALK)
        desk.do(("a", 0))
        for value in EVERY:
            if value != ("a", 0):
                error = self.assert_unchanged(desk, lambda: desk.do(("b", 0), value))
                self.assertEqual([error.__class__, error.index], [InvalidRun, 2])
        self.assertEqual(desk.do(), Run(TALK, ("a", 0)))
        self.assertEqual(desk.undo(), 1)

    def test_failures(self):
        desk = Desk(RING)
        desk.do(("a", 0), ("b", 0), ("b", 0))
        for value in without(EVERY, "a") + ["ab"]:
            error = self.assert_unchanged(desk, lambda: desk.fail("b", "b", value))
            self.assertEqual([error.__class__, repr(error.name)], [UnknownName, repr(value)])
        self.assert_raises(InvalidOperation(), lambda: desk.fail())
        self.assert_raises(InvalidOperation(), lambda: desk.fail("a", "b", "a"))
        desk.fail("c", "a")
        self.assertEqual(desk.events[-1], ("a", "c"))
        self.assertEqual(desk.costs, History(RING, *desk.events).losses)

    def test_places_are_kept_until_they_are_thrown_away_or_back(self):
        desk = Desk(LOSSY)
        desk.do(("s", 1), ("s", 0), ("s", 1), ("t", 1))
        self.assertEqual(desk.kept, {"s": (0, 1, 3), "t": (0, 1)})
        desk.forget("s", 1)
        self.assertEqual(desk.kept["s"], (0, 3))
        desk.do(("s", 1))
        self.assertEqual(desk.kept["s"], (0, 3, 4))
        self.assertEqual(desk.sweep(), 3)
        self.assertEqual([desk.kept, desk.sweep()], [{"s": (4,), "t": (1,)}, 0])
        once = Desk(ONCE)
        once.do(("p", 0), ("p", 0), ("q", 1))
        self.assertEqual(once.kept, {"p": (0, 2), "q": (0,)})
        once.fail("q")
        self.assertEqual(once.kept, {"p": (0,), "q": (0,)})
        once.do(("p", 0), ("p", 0))
        self.assertEqual(once.kept["p"], (0, 2))

    def test_forget_errors(self):
        desk = Desk(ONCE)
        desk.do(("p", 0), ("p", 0))
        for value in EVERY + ("m",):
            self.assertEqual(self.assert_unchanged(desk, lambda: desk.forget(value, 9)).__class__, UnknownName)
            self.assert_raises(UnknownName(value), lambda: desk.forget(value, 9))
        for value in without(EVERY, 0) + [1, 3, False]:
            self.assert_raises(InvalidNumber(value), lambda: desk.forget("p", value))
        self.assert_raises(Needed(0), lambda: desk.forget("p", 0))
        self.assert_raises(Needed(2), lambda: desk.forget("p", 2))
        self.assertEqual(desk.undo(), 0)

    def test_outputs_wait_until_they_are_settled(self):
        saves = Desk(ONCE.with_keeping(("q", 0, 1, "save"), ("p", 0, 0, "save")))
        saves.do(("p", 0))
        self.assertEqual([saves.waiting, saves.released, str(saves)],
                         [(("p", 0),), (), "desk behind 1 steps, 1 outputs waiting"])
        self.assertEqual([saves.release(), saves.release()], [(("p", 0),), ()])
        self.assertEqual([saves.waiting, saves.released, str(saves)],
                         [(), (("p", 0),), "desk behind 1 steps, 0 outputs waiting"])
        self.assertEqual([saves.undo(many=2), saves.waiting], [1, (("p", 0),)])
        plain = Desk(ONCE)
        plain.do(("p", 0), ("p", 0))
        self.assertEqual([plain.release(), places(plain.run, "p")], [(), (0, 2)])

    def test_too_many_layouts(self):
        desk = Desk(FULL)
        desk.do(("a", 1))
        for call in (desk.sweep, desk.release, lambda: desk.forget("a", 0)):
            self.assertEqual(self.assert_unchanged(desk, call).__class__, TooMany)
            self.assert_raises(TooMany(2000), call)
        self.assert_raises(InvalidNumber(5), lambda: desk.forget("a", 5))
        self.assert_raises(UnknownName("k"), lambda: desk.forget("k", 0))
        self.assertEqual([desk.fail("a"), desk.undo()], [Run(FULL), 1])


class Undoing(DeskCase):
    def test_numbers(self):
        desk = Desk(TALK)
        desk.do(("a", 0)), desk.do(), desk.sweep(), desk.fail("a")
        self.assertEqual([desk.undo(many=0), desk.redo(many=0)], [4, 4])
        for value in without(EVERY, *[number for number in range(11)]) + [-1]:
            if not (value.__class__ is int and 0 <= value < 10 ** 60):
                self.assert_raises(InvalidNumber(value), lambda: desk.undo(many=value))
                self.assert_raises(InvalidNumber(value), lambda: desk.redo(many=value))
        for value in (5, 10 ** 60 - 1):
            self.assert_raises(NothingToUndo(value), lambda: desk.undo(many=value))
            self.assert_raises(NothingToUndo(value), lambda: desk.redo(many=value))
        self.assertEqual([desk.undo(many=3), len(desk), desk.redo(many=3), desk.undo(), desk.undo()], [1, 1, 4, 3, 2])
        self.assertRaises(TypeError, lambda: desk.undo(1))

    def test_a_new_call_ends_redoing(self):
        desk = Desk(TALK)
        desk.do(("a", 0)), desk.do(("b", 0))
        desk.undo()
        self.assertEqual(self.assert_unchanged(desk, lambda: desk.do(("b", 9))).index, 1)
        self.assertEqual([desk.redo(), desk.undo()], [2, 1])
        desk.do()
        self.assert_raises(NothingToUndo(1), desk.redo)
        self.assertEqual(desk.undo(many=2), 0)

    def test_blocks_in_blocks(self):
        desk = Desk(TALK)
        desk.do(("a", 0))
        trial = desk.trial()
        with trial as same:
            same.do(("b", 0))
            with trial as again:
                again.undo(many=2)
                self.assertEqual(len(desk), 0)
            self.assertEqual(len(desk), 2)
            self.assertEqual(desk.during(lambda other: len(other.fail("b"))), 0)
            self.assertEqual(len(desk), 2)
        self.assertEqual([len(desk), desk.undo(many=0)], [1, 1])
        with trial:
            desk.undo()
        self.assertEqual([len(desk), desk.undo()], [1, 0])

    def test_blocks_that_end_by_an_error(self):
        desk = Desk(ONCE)
        desk.do(("p", 0))
        desk.undo()
        with self.assertRaises(InvalidRun):
            with desk.trial() as same:
                same.do(("q", 0)), same.do(("q", 9))
        self.assertEqual([len(desk), desk.redo(), desk.undo()], [0, 1, 0])
        with self.assertRaises(ZeroDivisionError):
            desk.during(lambda same: [same.do(("q", 0)), 1 // 0])
        self.assertEqual([len(desk), desk.redo()], [0, 1])
        self.assertIsNone(desk.during(lambda same: None))

    def test_a_trial_that_is_not_entered_does_nothing(self):
        desk = Desk(TALK)
        desk.trial()
        desk.do(("a", 0))
        self.assertEqual([len(desk), desk.undo()], [1, 0])

    def test_twins(self):
        desk = Desk(TALK)
        desk.do(("a", 0)), desk.do(("b", 0)), desk.undo()
        twin = desk.twin()
        self.assert_equal(desk, twin, True)
        twin.redo()
        self.assert_equal(desk, twin, False)
        twin.do(("b", 1))
        self.assertEqual([len(desk), len(twin), desk.redo(), desk.undo(many=2), twin.undo(many=3)], [1, 3, 2, 0, 0])
        with desk.trial() as same:
            inner = same.twin()
            inner.do(("a", 0))
        self.assertEqual([len(desk), len(inner)], [0, 1])


class Reading(DeskCase):
    def test_steps_that_can_come_next(self):
        desk = Desk(LOSSY)
        desk.do(("s", 0), ("s", 0))
        for step in [(name, number) for name in "stxy" for number in range(4)]:
            self.assertIs(step in desk, step in desk.run.possible)
        for value in without(EVERY, ("s", 1)) + [["s", 1], ("s", True), ("x", True), ("s", 1, 0), ("s",)]:
            self.assertIs(value in desk, False)
        self.assertIs(("s", 1) in desk, True)

    def test_iteration_yields_the_events(self):
        desk = Desk(ONCE)
        desk.do(("p", 0), ("p", 0)), desk.fail("q", "p"), desk.do(("q", 0))
        self.assertEqual([list(desk), tuple(desk)], [[("p", 0), ("p", 0), ("p", "q"), ("q", 0)], desk.events])
        self.assertEqual([len(desk), len(desk.run)], [3, 3])

    def test_comparing(self):
        one, other = Desk(TALK), Desk(TALK)
        one.do(("a", 0)), one.do(("b", 0)), other.do(("a", 0), ("b", 0))
        self.assert_equal(one, other, True)
        other.sweep()
        self.assert_equal(one, other, one.kept == other.kept)
        self.assert_equal(Desk(TALK), Desk(CALM), False)
        self.assert_equal(Desk(ALONE), Desk(ALONE), True)
        failed = Desk(TALK)
        failed.fail("a")
        self.assert_equal(failed, Desk(TALK), False)
        saves = Desk(ONCE.with_keeping(("p", 0, 0, "save")))
        saves.do(("p", 0))
        released = saves.twin()
        released.release()
        self.assert_equal(saves, released, False)
        for value in EVERY + (one.run, one.events, str(one)):
            self.assert_equal(one, value, False)

    def test_nothing_is_shared(self):
        desk = Desk(TALK)
        desk.do(("a", 0))
        before = content(desk)
        desk.kept["a"] = ()
        desk.costs.clear()
        desk.kept.clear()
        self.assertEqual(content(desk), before)
        steps = [("b", 0)]
        desk.do(*steps)
        steps.clear()
        self.assertEqual(desk.events, (("a", 0), ("b", 0)))


if __name__ == "__main__":
    unittest.main()
