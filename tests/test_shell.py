import unittest

from fallsback.desk.desk import Desk
from fallsback.errors import InvalidOperation, ParseError
from fallsback.later.outputs import needed
from fallsback.later.useless import useless_places
from fallsback.rows.losses import greatest_loss
from fallsback.rows.standings import touches
from fallsback.run.lines import lost
from fallsback.text import shell as module
from fallsback.text.formats import write_events, write_program
from fallsback.text.shell import Shell
from tests.cases import ErrorCase
from tests.drawn import draws, has_few_standings
from tests.examples import run_examples
from tests.samples import CALM, EVERY_PROGRAM, FULL, LOSSY, NAMES, ONCE, OVER, RING, TALK
from tests.values import EVERY

EXAMPLE = r"""
>>> shell = Shell(write_program(ONCE))
>>> [shell("do p 0, p 0, q 0"), shell("lost q"), shell("needed p"), shell("forget p 0"), shell("release"), shell("can")]
['done', 'p 0\nq 1', '0 2', 'needed 0', 'none', 'none']
>>> [shell("fail q"), shell("events").split("\n"), shell("loss q p"), shell("do q 1"), shell("lost q"), shell("undo 9"), shell("fly")]
['done', ['p 0', 'p 0', 'q 0', 'fail q'], '5', 'done', 'p 5\nq 4', 'undo 9', 'what']
"""
QUESTIONS = ("can", "events", "lost {0} {1}", "lost {0}", "kept {0}", "needed {1}", "useless {0}", "loss {0} {1}",
             "touches {0} {1}")


def spaced(places):
    return " ".join(map(str, places)) or "none"


def listed(lines):
    return "\n".join(lines) or "none"


def shell_of(program):
    return Shell(write_program(program))


class Example(ErrorCase):
    def test_example(self):
        run_examples(self, EXAMPLE, {**NAMES, "Shell": Shell, "write_program": write_program})

    def test_all_stands_where_it_is_listed(self):
        self.assert_listed(module, Shell, "__init__ desk answer __call__")


class Making(ErrorCase):
    def test_texts(self):
        for program in EVERY_PROGRAM:
            shell = shell_of(program)
            self.assertEqual([shell.desk(), shell.desk().program], [Desk(program), program])

    def test_errors(self):
        for value in EVERY:
            if not isinstance(value, str):
                self.assert_raises(InvalidOperation(), lambda: Shell(value))
        for text, line in (("", 0), ("process a\nstate", 2), ("fly", 0), ("process a\nstates", 1)):
            self.assert_raises(ParseError(line), lambda: Shell(text))


class Commands(ErrorCase):
    def assert_answers(self, shell, pairs):
        for line, answer in pairs:
            self.assertEqual(shell(line), answer, line)

    def test_steps_and_failures(self):
        self.assert_answers(shell_of(LOSSY), (
            ("events", "none"), ("can", "s 0\ns 1\nt 1"), ("do s 0, s 0", "done"), ("can", "s 1\nt 0\nt 1\nx 0\nx 1"),
            ("do x 1, t 0, s 1", "done"), ("events", "s 0\ns 0\nx 1\nt 0\ns 1"), ("do t 0, t 0, t 2", "run 6"),
            ("do s 9", "run 5"), ("do z 0", "run 5"), ("do y 0", "run 5"), ("fail t s", "done"),
            ("events", "s 0\ns 0\nx 1\nt 0\ns 1\nfail s t"), ("lost s t", "s 0\nt 0"), ("lost t", "s 0\nt 0"),
        ))

    def test_places(self):
        self.assert_answers(shell_of(TALK), (
            ("do a 0, b 0, b 1, a 1", "done"), ("kept a", "0 1"), ("kept b", "0 2"), ("do a 0, b 0", "done"),
            ("kept a", "0 1 3"), ("useless a", "1"), ("useless b", "2"), ("needed a", spaced(needed(
                Desk(TALK).do(("a", 0), ("b", 0), ("b", 1), ("a", 1), ("a", 0), ("b", 0)))["a"])),
            ("forget a 2", "number 2"), ("forget c 0", "unknown c"), ("forget ask 0", "unknown ask"),
            ("forget a 0", "needed 0"), ("sweep", "2"), ("sweep", "0"), ("kept b", "0"), ("undo 2", "done"),
            ("forget b 2", "done"), ("kept b", "0"), ("undo", "done"), ("kept b", "0 2"),
        ))
        self.assert_answers(shell_of(ONCE), (("useless p", "none"), ("touches q p", "yes"), ("touches p q", "no")))

    def test_outputs(self):
        shell = shell_of(ONCE.with_keeping(("q", 0, 1, "save")))
        self.assert_answers(shell, (
            ("release", "none"), ("do p 0", "done"), ("release", "none"), ("do p 0, q 1", "done"), ("release", "p 0"),
            ("release", "none"), ("undo 2", "done"), ("release", "p 0"),
        ))

    def test_undo_and_redo(self):
        self.assert_answers(shell_of(TALK), (
            ("undo", "undo 1"), ("redo", "undo 1"), ("undo 0", "done"), ("redo 0", "done"), ("do a 0", "done"),
            ("fail a", "done"), ("undo 3", "undo 3"), ("undo 2", "done"), ("events", "none"), ("redo 2", "done"),
            ("redo", "undo 1"), ("events", "a 0\nfail a"), ("undo", "done"), ("redo 1", "done"),
            ("undo " + "9" * 60, "undo " + "9" * 60),
        ))

    def test_losses(self):
        self.assert_answers(shell_of(TALK), (
            ("loss a b", "no bound"), ("loss a a", "no bound"), ("touches a b", "yes"), ("touches a a", "no"),
        ))
        self.assert_answers(shell_of(CALM), (("loss a b", "0"), ("touches a b", "no"), ("touches b b", "no")))

    def test_unknown_names(self):
        for program in (ONCE, OVER):
            shell, name = shell_of(program), program.processes[0]
            for unknown in ("x", "zzzzzzzz", "do", "fail", program.kinds[0]):
                for line in ("fail {0}", "fail {1} {0}", "lost {0}", "lost {1} {1} {0}", "kept {0}", "needed {0}",
                             "useless {0}", "loss {0} {1}", "loss {1} {0}", "touches {0} {1}", "touches {1} {0}",
                             "touches {0} {0}", "forget {0} 0", "forget {0} 99"):
                    self.assertEqual(shell(line.format(unknown, name)), "unknown " + unknown)

    def test_impossible_operations(self):
        shell = shell_of(ONCE)
        for line in ("fail p p", "lost p p", "fail q p q", "lost p q p"):
            self.assertEqual(shell(line), "operation")

    def test_too_many(self):
        shell = shell_of(OVER)
        for line in ("loss a b", "touches a b", "touches a a"):
            self.assertEqual(shell(line), "many 2000")
        shell = shell_of(FULL)
        self.assertEqual([shell("do a 1"), shell("loss a c"), shell("touches a c")], ["done", "0", "no"])
        for line in ("needed a", "sweep", "release", "forget a 0"):
            self.assertEqual(shell(line), "many 2000")
        self.assertEqual([shell("forget a 1"), shell("forget k 0"), shell("events")], ["number 1", "unknown k", "a 1"])

    def test_no_command(self):
        shell = shell_of(LOSSY)
        shell("do s 0")
        before = shell.desk()
        wrong = (
            "", " ", "what", "do", "do ", "do s", "do s 0,", "do s 0,s 0", "do s 0 , s 0", "do s 0,  s 0", "do  s 0",
            "do s 00", "do s -1", "do s 0 0", "do 0 s", "do S 0", "do s 0, ", "do , s 0", "do s " + "1" + "0" * 60, "fail",
            "fail ", "fail 0", "fail s 0", "fail  s", "fail s ", "fail S", "forget", "forget s", "forget s 0 0",
            "forget 0 s", "forget s 00", "undo 01", "undo x", "undo 1 1", "undo -1", "undo ", "redo s", "redo 1 2", "redo  1",
            "sweep s", "sweep ", "sweep 1", " sweep", "release s", "release ", "can s", "can ", "events 1", "events ",
            "lost", "lost 0", "lost s, t", "kept", "kept s t", "kept 0", "needed", "needed s t", "useless", "useless s t",
            "loss", "loss s", "loss s t s", "touches", "touches s", "touches s t t", "loss s 0", "DO s 0", "do s 0\n",
            "events\n", "do s 0\ndo s 0", "undo " + "1" + "0" * 60, "Can", "can\n", "kept s\n", "touches s t ", "fly s",
            "abcdefghi s", "kept abcdefghi", "~" * 4000, "do " * 1000,
        )
        for line in wrong + tuple(value for value in EVERY if value not in ("a",)):
            self.assertEqual(shell(line), "what", line)
            self.assertEqual(shell.answer(line), "what", line)
        self.assertEqual(shell.desk(), before)


class AgainstADesk(ErrorCase):
    def expected(self, desk, line):
        """The answer to a question, by calls of the functions themselves."""
        words = line.split(" ")
        run, program = desk.run, desk.program
        if words[0] in ("can", "events"):
            return listed([f"{name} {number}" for name, number in run.possible]) if words[0] == "can" else (
                write_events(desk.events) or "none")
        if words[0] == "lost":
            return listed([f"{name} {loss}" for name, loss in lost(run, *words[1:]).items()])
        if words[0] == "loss":
            loss = greatest_loss(program, words[1], words[2])
            return "no bound" if loss is None else str(loss)
        if words[0] == "touches":
            return "yes" if (words[1], words[2]) in touches(program) else "no"
        table = {"kept": desk.kept, "needed": needed(run), "useless": useless_places(run)}[words[0]]
        return spaced(table[words[1]])

    def command(self, rng, shell, desk):
        """One command of both."""
        name = rng.choice(desk.program.processes)
        word = rng.choice(["do"] * 4 + ["fail", "sweep", "release", "undo", "forget"])
        if word == "do" and desk.run.possible:
            step = rng.choice(desk.run.possible)
            self.assertEqual(shell(f"do {step[0]} {step[1]}"), "done")
            desk.do(step)
        elif word == "fail":
            self.assertEqual(shell.answer(f"fail {name}"), "done")
            desk.fail(name)
        elif word == "sweep":
            self.assertEqual(shell("sweep"), str(desk.sweep()))
        elif word == "release":
            self.assertEqual(shell("release"), listed([f"{one} {number}" for one, number in desk.release()]))
        elif word == "forget":
            place = rng.choice(desk.kept[name])
            if place in needed(desk.run)[name]:
                self.assertEqual(shell(f"forget {name} {place}"), f"needed {place}")
            else:
                self.assertEqual(shell(f"forget {name} {place}"), "done")
                desk.forget(name, place)
        elif desk.undo(many=0):
            self.assertEqual([shell("undo"), shell("redo 1"), shell("undo 1")], ["done"] * 3)
            desk.undo()

    def test_drawn_programs(self):
        many = 0
        for rng, program in draws(60, seed=110):
            if not has_few_standings(program, 40):
                continue
            many += 1
            shell, desk = shell_of(program), Desk(program)
            for _ in range(12):
                self.command(rng, shell, desk)
                self.assertEqual(shell.desk(), desk)
                line = rng.choice(QUESTIONS).format(*rng.sample(program.processes, 2))
                self.assertEqual(shell(line), self.expected(desk, line), line)
                self.assertEqual(shell.answer(line), shell(line))
                self.assertEqual(shell.desk(), desk)
        self.assertGreater(many, 25)

    def test_questions_change_nothing(self):
        for program in (TALK, LOSSY, RING):
            shell = shell_of(program)
            first = shell.desk().run.possible[0]
            self.assertEqual([shell(f"do {first[0]} {first[1]}"), shell("undo"), shell("redo")], ["done"] * 3)
            shell("undo")
            before = shell.desk()
            for line in QUESTIONS:
                shell(line.format(*program.processes))
            self.assertEqual([shell.desk(), shell("redo"), shell("undo 2")], [before, "done", "undo 2"])

    def test_the_desk_is_a_twin(self):
        shell = shell_of(TALK)
        shell("do a 0")
        twin = shell.desk()
        twin.do(("b", 0))
        self.assertEqual([shell("events"), len(twin), twin.undo(many=2), shell.desk().undo()], ["a 0", 2, 0, 0])


if __name__ == "__main__":
    unittest.main()
