import copy
import unittest

from fallsback.base.machines import Machine
from fallsback.base.programs import Program
from fallsback.errors import FallError, InvalidOperation, InvalidProgram, ParseError
from fallsback.rows.losses import loss_paper
from fallsback.rows.standings import standings
from fallsback.text import formats as module
from fallsback.text.formats import read_events, read_program, read_value, write_events, write_program, write_value
from tests.cases import ErrorCase
from tests.drawn import draw_history, draws
from tests.examples import raised, run_examples
from tests.samples import ALONE, CALM, EVERY_PROGRAM, FULL, LOSSY, NAMES, ONCE, OVER, RING, TALK
from tests.values import EVERY, TEXTS, nested, without

EXAMPLE = r"""
>>> write_program(ONCE).split("\n")
['kind m p q 1 sure', 'process p', 'state', 'output 1 cost 2', 'state', 'send m 2 cost 3 save', 'state', 'process q', 'state', 'work 1 cost 1', 'take m 2 cost 4', 'state', 'state']
>>> [read_program(write_program(CALM)) == CALM, write_events((("q", 0), ("p", "q"))).split("\n"), read_events("")]
[True, ['q 0', 'fail p q'], ()]
>>> [write_value(("far", "a", (("a", 0),), {})), read_value("( =m - ( 3 no ) )")]
['( =far =a ( ( =a 0 ) ) { } )', ('m', None, (3, False))]
>>> read_events("p 0\nfail")
raises ParseError(1)
"""
FUNCTIONS = (write_program, write_events, write_value, read_program, read_events, read_value)
READERS = (read_program, read_events, read_value)
SIXTY, LONGER = "9" * 60, "1" + "0" * 60
WRONG_WORDS = (
    "", "a b", "A", "abcdefghi", "0", "00", "01", "-1", "+1", " ", "x", "kind", "state", "cost", "save", "note", "sure",
    "fail", "6", "7", "9", "10", "-", "=a", "(", SIXTY, LONGER, "send", "work", "p", "q", "m", "None", "true", "~" * 30,
)


def deep(many, empty=()):
    """A value that is nested so deep."""
    value = empty
    for level in range(many - 1):
        value = (value, 0) if level % 2 else {"k": value}
    return value


class FormatCase(ErrorCase):
    def assert_wrong(self, call, text, line):
        self.assert_raises(ParseError(line), lambda: call(text))


class Example(FormatCase):
    def test_example(self):
        run_examples(self, EXAMPLE, {**NAMES, **{one.__name__: one for one in FUNCTIONS}})

    def test_functions_stand_in_their_file(self):
        for function in FUNCTIONS:
            self.assertEqual(function.__module__, module.__name__)


class Programs(FormatCase):
    def test_texts(self):
        self.assertEqual(write_program(ALONE), "process a\nstate\nwork 0 cost 0\nprocess b\nstate")
        self.assertEqual(write_program(LOSSY).split("\n"), [
            "kind x s t 2 losable", "kind y t s 1 sure", "process s", "state", "send x 0 cost 2", "work 0 cost 1 save",
            "take y 0 cost 1 note", "process t", "state", "take x 1 cost 3 note", "send y 0 cost 1 save", "state",
            "work 0 cost 2",
        ])

    def test_what_is_written_is_read_back(self):
        programs = EVERY_PROGRAM + (FULL, OVER) + tuple(program for _, program in draws(60, seed=100, kinds=(0, 4)))
        for program in programs:
            text = write_program(program)
            self.assertEqual(read_program(text), program)
            self.assertEqual(write_program(read_program(text)), text)

    def test_names_that_are_words_of_lines(self):
        program = TALK.renamed({"a": "state", "b": "kind", "ask": "cost", "tell": "process"})
        self.assertEqual(read_program(write_program(program)), program)
        program = ONCE.renamed({"p": "send", "q": "work", "m": "save"})
        self.assertEqual(read_program(write_program(program)), program)

    def test_no_program(self):
        for value in without(EVERY, TALK):
            self.assert_raises(InvalidProgram(), lambda: write_program(value))

    def test_each_single_change_of_a_line(self):
        found = {True: 0, False: 0}
        for program in (TALK, ONCE, LOSSY, ALONE):
            lines = write_program(program).split("\n")
            for at, line in enumerate(lines):
                words = line.split(" ")
                for number in range(len(words)):
                    for word in WRONG_WORDS:
                        self.check(lines[:at] + [" ".join(words[:number] + [word] + words[number + 1:])] + lines[at + 1:], found)
                        self.check(lines[:at] + [" ".join(words[:number] + [word] + words[number:])] + lines[at + 1:], found)
                    self.check(lines[:at] + [" ".join(words[:number] + words[number + 1:])] + lines[at + 1:], found)
                for word in WRONG_WORDS:
                    self.check(lines[:at] + [line + " " + word] + lines[at + 1:], found)
        self.assertGreater(min(found.values()), 100)

    def test_each_single_change_of_the_order(self):
        found = {True: 0, False: 0}
        for program in (TALK, ONCE, LOSSY, RING):
            lines = write_program(program).split("\n")
            for at, line in enumerate(lines):
                rest = lines[:at] + lines[at + 1:]
                self.check(rest, found)
                for other in range(len(lines) + 1):
                    self.check(rest[:other] + [line] + rest[other:], found)
                    self.check(lines[:other] + [line] + lines[other:], found)
                    self.check(lines[:other] + [""] + lines[other:], found)
        self.assertGreater(min(found.values()), 20)

    def check(self, lines, found):
        """The lines are read as a program with just this text, or refused at the line that the document tells."""
        text = "\n".join(lines)
        expected = self.first_wrong(lines)
        if expected is None:
            expected = len(lines) if self.program_of(lines) is None else None
        found[expected is None] += 1
        if expected is None:
            self.assertEqual(read_program(text), self.program_of(lines))
            self.assertEqual(write_program(read_program(text)), text)
        else:
            self.assert_wrong(read_program, text, expected)

    def is_word(self, text):
        return 1 <= len(text) <= 8 and all("a" <= letter <= "z" for letter in text)

    def is_number(self, text):
        return 1 <= len(text) <= 60 and all("0" <= digit <= "9" for digit in text) and (text == "0" or text[0] != "0")

    def form(self, line):
        """What the line is by its words alone."""
        words = line.split(" ")
        forms = {
            "kind": ("kind", "word", "word", "word", "number", "sure"), "process": ("process", "word"), "state": ("state",),
            "work": ("work", "number", "cost", "number"), "output": ("output", "number", "cost", "number"),
            "send": ("send", "word", "number", "cost", "number"), "take": ("take", "word", "number", "cost", "number"),
        }
        form = forms.get(words[0])
        if form is None:
            return None
        if words[0] in ("work", "output", "send", "take") and len(words) == len(form) + 1:
            form += ("keeping",)
        if len(words) != len(form):
            return None
        for word, part in zip(words, form):
            right = {"word": self.is_word(word), "number": self.is_number(word), "sure": word in ("sure", "losable"),
                     "keeping": word in ("save", "note")}.get(part, word == part)
            if not right:
                return None
        return "move" if words[0] in ("work", "output", "send", "take") else words[0]

    def first_wrong(self, lines):
        """The index of the first line that has none of the forms or may not stand there, or None."""
        kind = process = ""
        ahead = []
        for at, line in enumerate(lines):
            form, words = self.form(line), line.split(" ")
            right = form is not None
            if form == "kind":
                right, kind = "process" not in ahead and words[1] > kind, words[1]
            elif form == "process":
                right, process = words[1] > process, words[1]
            elif form == "state":
                right = "process" in ahead
            elif form == "move":
                right = "state" in ahead[len(ahead) - ahead[::-1].index("process"):] if "process" in ahead else False
            if not right:
                return at
            ahead.append(form)
        return None

    def program_of(self, lines):
        kinds, machines = {}, {}
        for line in lines:
            words = line.split(" ")
            if words[0] == "kind":
                kinds[words[1]] = (words[2], words[3], int(words[4]), words[5] == "sure")
            elif words[0] == "process":
                machines[words[1]] = []
            elif words[0] == "state":
                list(machines.values())[-1].append([])
            else:
                kind = words.pop(1) if words[0] in ("send", "take") else None
                keeping = words[4] if len(words) == 5 else None
                list(machines.values())[-1][-1].append((words[0], kind, int(words[1]), int(words[3]), keeping))
        try:
            return Program({name: Machine(*[tuple(state) for state in machines[name]]) for name in machines}, kinds)
        except FallError:
            return None

    def test_wrong_programs(self):
        right = "process a\nstate\nprocess b\nstate"
        self.assertEqual(read_program(right), Program({"a": Machine(()), "b": Machine(())}, {}))
        cases = (
            ("", 0), ("\n", 0), ("process a\nstate", 2), ("process a\nprocess b\nstate", 3), (right + "\n", 4),
            ("process a\nstate\nprocess a\nstate", 2), ("state\n" + right, 0), ("kind a a b 1 sure\n" + right, 5),
            ("process a\nwork 0 cost 0\n", 1), ("kind k a b 3 sure\n" + right, 5), ("kind k a a 1 sure\n" + right, 5),
            (right + "\nwork 0 cost 10", 5), (right + "\nwork 1 cost 0", 5), (right + "\nsend k 0 cost 0", 5),
            (right + "\nwork 0 cost 0 note", 5), (right + "\nwork 0 cost " + SIXTY, 5), (right + "\nwork 0 cost " + LONGER, 4),
            ("kind k a b " + LONGER + " sure\n" + right, 0), ("kind k a b 0 sure\n" + right, 5),
            ("kind k a b 1 sure\nkind k a b 1 sure\n" + right, 1), ("kind l a b 1 sure\nkind k a b 1 sure\n" + right, 1),
            (right + "\nkind k a b 1 sure", 4), (right + "\nstate" * 6, 10), (right + "\nwork 0 cost 0" * 7, 11),
            (right + "\nprocess c", 5), ("kind k a b 1 maybe\n" + right, 0), (right + "\nfly 0 cost 0", 4),
            (right + "\nsend 0 0 cost 0", 4), (right + "\nprocess c\nwork 0 cost 0", 5), (" " + right, 0), (right + " ", 3),
        )
        for text, line in cases:
            self.assert_wrong(read_program, text, line)


class Events(FormatCase):
    def test_texts(self):
        self.assertEqual(write_events(()), "")
        self.assertEqual(write_events((("fail", 0), ("fail",), ("a", "fail"), ("fail", "fails"))),
                         "fail 0\nfail fail\nfail a fail\nfail fail fails")
        self.assertEqual(read_events("fail 0\nfail fail\nfail a fail"), (("fail", 0), ("fail",), ("a", "fail")))
        many = tuple("abcdefghij")
        self.assertEqual(read_events(write_events((many, ("x", int(SIXTY))))), (many, ("x", int(SIXTY))))

    def test_what_is_written_is_read_back(self):
        for rng, program in draws(60, seed=101):
            events, run = draw_history(rng, program, rng.randint(0, 14))
            for value in (events, run.steps):
                self.assertEqual(read_events(write_events(value)), value)
                self.assertEqual(write_events(read_events(write_events(value))), write_events(value))

    def test_no_events(self):
        right = (("p", 0), ("p", "q"))
        self.assertEqual(write_events(right), "p 0\nfail p q")
        wrong = (
            list(right), (list(right[0]),), (("p", -1),), (("p", True),), (("p", 10 ** 60),), (("P", 0),), (("", 0),), ((),),
            (("q", "p"),), (("p", "p"),), (("p", "q", 0),), (("p", None),), ((0, "p"),), ("p",), "p 0", (("abcdefghi",),),
            (right,), right + (None,), {("p", 0): 0}, (("p", 0, 0),), (("p", "Q"),), (("p", ["q"]),),
        )
        for value in wrong + tuple(without(EVERY, ())):
            self.assert_raises(InvalidOperation(), lambda: write_events(value))
        for value in EVERY:
            if repr(value) not in ("('send', 'm')", "('a', 0)", "('a',)"):
                self.assert_raises(InvalidOperation(), lambda: write_events((value,)))
                self.assert_raises(InvalidOperation(), lambda: write_events(right + (value,)))

    def test_wrong_lines(self):
        right = ["p 0", "fail p q", "fail 0"]
        for at in range(3):
            for line in ("", "p", "0", "p  0", " p 0", "p 0 ", "p 00", "p -1", "P 0", "p q", "fail", "fail q p", "fail p p",
                         "fail p 0", "fail  p", "p 0 0", "p " + LONGER, "abcdefghi 0", "fail P", "fail p  q", "Fail p"):
                text = "\n".join(right[:at] + [line] + right[at + 1:])
                if line == "" and at == 0:
                    self.assert_wrong(read_events, text, 0)
                self.assert_wrong(read_events, text, at)
        for text, line in (("\n", 0), ("p 0\n", 1), ("\np 0", 0), ("fail", 0), (" ", 0)):
            self.assert_wrong(read_events, text, line)
        self.assertEqual(read_events("p " + SIXTY), (("p", int(SIXTY)),))


class Values(FormatCase):
    def test_texts(self):
        cases = (
            (None, "-"), (True, "yes"), (False, "no"), (0, "0"), (1, "1"), (-7, "-7"), ("a", "=a"), ("yes", "=yes"),
            ((), "( )"), ({}, "{ }"), ((1,), "( 1 )"), ({"b": 1, "a": None}, "{ =a - =b 1 }"), (((),), "( ( ) )"),
            ({2: 0, 10: 0, True: 1, None: 2, (0, "m"): 3, "m": 4}, "{ =m 4 ( 0 =m ) 3 10 0 2 0 - 2 yes 1 }"),
            (int(SIXTY), SIXTY), (-int(SIXTY), "-" + SIXTY), ({-1: -1}, "{ -1 -1 }"), ("abcdefgh", "=abcdefgh"),
        )
        for value, text in cases:
            self.assertEqual(write_value(value), text)
            self.assertEqual(repr(read_value(text)), repr(value) if not isinstance(value, dict) else
                             repr({key: value[key] for key in sorted(value, key=repr)}))

    def test_papers(self):
        for program in (TALK, CALM, ONCE):
            for failed in program.processes:
                for process in program.processes:
                    paper = loss_paper(program, failed, process)
                    self.assertEqual(repr(read_value(write_value(paper))), repr(paper))
        self.assertEqual(read_value(write_value(standings(LOSSY))), standings(LOSSY))

    def test_eight_and_nine_deep(self):
        for empty in ((), {}):
            self.assertEqual(read_value(write_value(deep(8, empty))), deep(8, empty))
            self.assert_raises(InvalidOperation(), lambda: write_value(deep(9, empty)))
            self.assert_raises(InvalidOperation(), lambda: write_value(deep(10, empty)))
        tuples = "( " * 8 + ") " * 8
        self.assertEqual(read_value(tuples[:-1]), ((((((((),),),),),),),))
        self.assert_wrong(read_value, "( " * 9 + ") " * 8 + ")", 0)
        self.assert_wrong(read_value, "{ =a " * 9 + "0" + " }" * 9, 0)
        self.assertEqual(write_value(read_value("{ =a " * 8 + "0" + " }" * 8)), "{ =a " * 8 + "0" + " }" * 8)
        self.assertEqual(read_value("( " * 7 + "0 { } " + ") " * 6 + ")"), read_value("( " * 7 + "0 { } " + ") " * 6 + ")"))
        # A key counts like a value.
        key = "( " * 7 + ") " * 7
        self.assertEqual(read_value("{ " + key + "0 }"), {((((((((),),),),),),),)[0]: 0})
        self.assert_wrong(read_value, "{ ( " + key + ") 0 }", 0)
        self.assert_raises(InvalidOperation(), lambda: write_value({((((((((),),),),),),),): 0}))

    def test_values_without_text(self):
        wrong = (
            [], [0], (0, []), {"a": []}, "A", "", "a b", "abcdefghi", 10 ** 60, -(10 ** 60), (10 ** 99,), {"A": 0}, {0: "A"},
            {10 ** 60: 0}, nested(10), ("a", {"b": (0, ["c"])}), Machine(()), (TALK,), {"k": ONCE},
        )
        for value in wrong:
            before = repr(value)
            self.assert_raises(InvalidOperation(), lambda: write_value(value))
            self.assertEqual(repr(value), before)

    def has_text(self, value, depth=8):
        if value is None or value.__class__ is bool:
            return True
        if value.__class__ is int:
            return abs(value) < 10 ** 60
        if value.__class__ is str:
            return 1 <= len(value) <= 8 and all("a" <= letter <= "z" for letter in value)
        if value.__class__ in (tuple, dict):
            parts = list(value) + (list(value.values()) if value.__class__ is dict else [])
            return depth > 0 and all(self.has_text(part, depth - 1) for part in parts)
        return False

    def test_every_value(self):
        for value in EVERY + tuple((one, other) for one in EVERY for other in (0, ())):
            if self.has_text(value):
                self.assertEqual(repr(read_value(write_value(value))), repr(value))
            else:
                self.assert_raises(InvalidOperation(), lambda: write_value(value))

    def test_wrong_texts(self):
        wrong = (
            "", " ", "(", ")", "( ", "( 0", "0 0", "( ) )", "( 0 ) 0", "{ 0 }", "{ 0 0 0 }", "{ =b 0 =a 0 }", "{ =a 0 =a 1 }",
            "{ 1 0 yes 0 }", "{ 0 0 no 0 }", "{ ( 1 ) 0 ( yes ) 0 }", "{ { } 0 }", "{ ( { } ) 0 }", "{ 2 0 10 0 }", "a", "=",
            "=A", "=abcdefghi", "01", "-0", "--1", "+1", "- 1 0", "1.0", "None", "True", "Yes", "( 0  0 )", "(0)", "( 0 }",
            "{ 0 0 )", LONGER, "-" + LONGER, "( " + LONGER + " )", "0 ", " 0", "=a =b", "~", "{ - 0 =a 0 }", "{ yes 0 - 0 }",
            "-00", "00", "{ =a }", "( ( )", "0x1", "=a b",
        )
        for text in wrong:
            self.assert_wrong(read_value, text, 0)
            self.assert_wrong(read_value, text + "\n0", 0)
            self.assert_wrong(read_value, "0\n" + text, 1)
        for text in ("0\n", "0\n0", "( )\n( )"):
            self.assert_wrong(read_value, text, 1)
        self.assert_wrong(read_value, "( 0\n0 )", 0)
        self.assert_wrong(read_value, "\n0", 0)

    def test_each_single_change_of_a_word(self):
        value = ("near", {((0, 1), "m"): {("m", 0): -3, "p": None}, ((0, 2), "m"): {}}, (("p", 0), True, False))
        words = write_value(value).split(" ")
        found = {True: 0, False: 0}
        for at in range(len(words) + 1):
            texts = [" ".join(words[:at] + words[at + 1:]), " ".join(words[:at] + words[at + 1:at + 2] + words[at:at + 1]
                                                                     + words[at + 2:])]
            for word in WRONG_WORDS + (")", "{", "}", "yes", "no", "=m", "1", "-3", "=p"):
                texts += [" ".join(words[:at] + [word] + words[at + 1:]), " ".join(words[:at] + [word] + words[at:])]
            for text in texts:
                try:
                    read = read_value(text)
                except ParseError as error:
                    self.assertEqual(error.line, 0)
                    found[False] += 1
                else:
                    self.assertEqual(write_value(read), text)
                    found[True] += 1
        self.assertGreater(min(found.values()), 100)


class Errors(FormatCase):
    def test_no_text(self):
        for call in READERS:
            for value in EVERY:
                if not isinstance(value, str):
                    self.assert_raises(InvalidOperation(), lambda: call(value))
            for value in TEXTS:
                if (call, value) not in ((read_events, ""), (read_value, "0")):
                    self.assertEqual(raised(lambda: call(value)).__class__, ParseError)

    def test_long_texts(self):
        many = (("p", 0),) * 900
        self.assertEqual(read_events(write_events(many)), many)
        self.assertEqual(read_value(write_value(many)), many)
        self.assert_wrong(read_events, "p 0\n" * 900, 900)
        self.assert_wrong(read_value, "( " * 1999, 0)
        self.assert_wrong(read_value, "{ " * 1999, 0)
        self.assert_wrong(read_program, "\n" * 4000, 0)

    def test_what_was_passed_stays(self):
        value = {"b": {"d": (0,), "c": 1}, "a": ()}
        before = copy.deepcopy(value)
        write_value(value)
        self.assertEqual(repr(value), repr(before))
        read = read_value(write_value(value))
        read["b"].clear()
        self.assertEqual(repr(value), repr(before))


if __name__ == "__main__":
    unittest.main()
