import copy
import unittest

from fallsback.base.machines import Machine
from fallsback.base.programs import Program
from fallsback.errors import InvalidMachine, InvalidNumber, InvalidOperation, InvalidProgram, InvalidWord, TooMany
from fallsback.errors import UnknownName
from fallsback.plan import rules as module
from fallsback.plan.rules import Rule, free_program, rule_loss, ruled
from fallsback.rows.losses import greatest_loss, losses
from fallsback.rows.standings import standings
from tests.cases import ErrorCase
from tests.drawn import draws
from tests.examples import run_examples
from tests.samples import CALM, EVERY_PROGRAM, LOSSY, NAMES, ONCE, RING, TALK
from tests.values import EVERY, without

EXAMPLE = """
>>> kinds = {"ask": TALK["ask"], "tell": TALK["tell"]}
>>> rules = {"a": Rule.each(("send", "ask")), "b": Rule.each(("send", "tell"))}
>>> every = {"a": Rule.each(("send", "ask"), ("take", "tell")), "b": Rule.each(("send", "tell"), ("take", "ask"))}
>>> [rule_loss(kinds, rules, "a", "b"), rule_loss(kinds, every, "a", "b"), rules["a"][0, "take", "tell"]]
[None, 0, (0, None)]
>>> [free_program(kinds, rules)["b"][0], ruled(TALK, rules) == ruled(CALM, rules)]
[(('send', 'tell', 0, 1, 'save'), ('take', 'ask', 0, 0, None)), True]
"""
FUNCTIONS = (free_program, rule_loss, ruled)
KINDS = {"ask": TALK["ask"], "tell": TALK["tell"]}
RULES = {"a": Rule.each(("send", "ask")), "b": Rule.each(("send", "tell"))}
RULE = Rule((("send", "k", 1, "save"), ("take", "l", 0, "note")), (("take", "l", 0, None),))


def draw_rule(rng, names, states=3):
    """A rule with entries for some sends and takes of these kinds."""
    many = rng.randint(1, states)
    rows = []
    for _ in range(many):
        acts = rng.sample([(act, kind) for act in ("send", "take") for kind in names], rng.randint(0, 2 * len(names)))
        rows.append(tuple(
            (act, kind, rng.randrange(many), rng.choice([None, "save"] + (["note"] if act == "take" else [])))
            for act, kind in acts
        ))
    return Rule(*rows)


def draw_rules(rng, program, states=3):
    names = program.kinds + ("zz",)
    return {name: draw_rule(rng, names, states) for name in program.processes}


def told(rule, state, act, kind):
    """What the rule tells for this send or take, looked at entry by entry."""
    for entry in rule.states[state]:
        if entry[:2] == (act, kind):
            return entry[2:]
    return (state, None)


class RuleCase(ErrorCase):
    def assert_no_rule(self, call):
        self.assert_raises(InvalidMachine(), call)


class Example(RuleCase):
    def test_example(self):
        run_examples(self, EXAMPLE, {**NAMES, "Rule": Rule, **{one.__name__: one for one in FUNCTIONS}})

    def test_all_stands_where_it_is_listed(self):
        self.assert_listed(module, Rule, "__init__ of each __getitem__ states __len__ __eq__ __str__")
        for function in FUNCTIONS:
            self.assertEqual(function.__module__, module.__name__)


class Making(RuleCase):
    def test_states(self):
        self.assertEqual([len(RULE), str(RULE), len(RULE.states)], [2, "rule of 2 states", 2])
        self.assertEqual(Rule.of(RULE.states), RULE)
        self.assertEqual([len(Rule(())), len(Rule(*[()] * 6)), Rule(()).states], [1, 6, ((),)])
        self.assert_fixed(RULE, "states")

    def test_many_entries(self):
        entries = tuple(("send", "k" * many + letter, 0, None) for many in range(8) for letter in "abcdef")
        self.assertEqual(len(Rule(entries).states[0]), 48)

    def test_each(self):
        self.assertEqual(Rule.each(("send", "k"), ("take", "l")), Rule((("send", "k", 0, "save"), ("take", "l", 0, "save"))))
        self.assertEqual(Rule.each(), Rule(()))
        self.assert_no_rule(lambda: Rule.each(("send", "k"), ("send", "k")))
        for value in without(EVERY, ("send", "m")):
            self.assert_no_rule(lambda: Rule.each(value))
            self.assert_no_rule(lambda: Rule.each(("send", "k"), value))
        for pair in (("work", "k"), ("output", None), ("send", None), ("send", "K"), ["send", "k"], ("send", "k", 0)):
            self.assert_no_rule(lambda: Rule.each(pair))

    def test_wrong_states(self):
        self.assert_no_rule(lambda: Rule())
        self.assert_no_rule(lambda: Rule(*[()] * 7))
        for value in EVERY:
            if value != ():
                self.assert_no_rule(lambda: Rule(value))
                self.assert_no_rule(lambda: Rule((), value))
                self.assert_no_rule(lambda: Rule.of(value if value != ((), ()) else ()))
            self.assert_no_rule(lambda: Rule((value,)))
        self.assert_no_rule(lambda: Rule.of(()))
        self.assert_no_rule(lambda: Rule.of([()]))
        self.assert_no_rule(lambda: Rule([]))

    def test_wrong_entries(self):
        right = ("take", "k", 1, "note")
        self.assertEqual(Rule((right,), ()).states[0], (right,))
        for at in range(4):
            for value in without(EVERY, *[("take", "send"), ("a", "save", "note", "send"), (0, 1), (None, "save", "note")][at]):
                self.assert_no_rule(lambda: Rule((right[:at] + (value,) + right[at + 1:],), ()))
        for entry in (
            ("send", "k", 0, "note"), ("take", "k", 2, None), ("take", "k", True, None), ("take", "k", 0), list(right),
            ("take", "k", 0, None, 0), ("work", "k", 0, None), ("work", None, 0, None), ("take", "kkkkkkkkk", 0, None),
        ):
            self.assert_no_rule(lambda: Rule((entry,), ()))

    def test_two_entries_with_one_act_and_kind(self):
        for other in (("send", "k", 0, None), ("send", "k", 0, "save"), ("send", "k", 1, "save")):
            self.assert_no_rule(lambda: Rule((("send", "k", 0, "save"), other), ()))
        self.assertEqual(len(Rule((("send", "k", 0, "save"), ("take", "k", 0, None), ("send", "l", 0, None)))), 1)


class Reading(RuleCase):
    def test_entries(self):
        found = [RULE[0, "send", "k"], RULE[0, "take", "l"], RULE[1, "take", "l"], RULE[1, "send", "k"], RULE[0, "take", "k"]]
        self.assertEqual(found, [(1, "save"), (0, "note"), (0, None), (1, None), (0, None)])
        self.assertEqual(RULE[1, "send", "other"], (1, None))

    def test_drawn_rules(self):
        for rng, program in draws(30, seed=80):
            rule = draw_rule(rng, ["k", "l", "m"])
            for state in range(len(rule)):
                for act in ("send", "take"):
                    for kind in ("k", "l", "m", "n"):
                        self.assertEqual(rule[state, act, kind], told(rule, state, act, kind))

    def test_no_such_triple(self):
        for value in EVERY:
            self.assert_raises(InvalidOperation(), lambda: RULE[value])
        for value in without(EVERY, "send"):
            self.assert_raises(InvalidOperation(), lambda: RULE[9, value, "k"])
        for value in without(EVERY, "a", "save", "note", "send"):
            self.assert_raises(InvalidOperation(), lambda: RULE[9, "take", value])
        for value in ((0, "send"), (0, "send", "k", 0), [0, "send", "k"], (0, "work", "k"), (0, "send", None)):
            self.assert_raises(InvalidOperation(), lambda: RULE[value])

    def test_no_state(self):
        for value in without(EVERY, 0, 1) + [2, True, False]:
            self.assert_raises(InvalidNumber(value), lambda: RULE[value, "send", "k"])

    def test_no_iteration(self):
        self.assert_no_iteration(RULE)

    def test_comparing(self):
        backward = Rule(RULE.states[0][::-1], RULE.states[1])
        self.assert_equal(RULE, backward, True)
        for other in (
            Rule(*RULE.states[::-1]), Rule(*RULE.states, ()), Rule(RULE.states[0][:1], RULE.states[1]),
            Rule((("send", "k", 1, "save"), ("take", "l", 0, None)), RULE.states[1]),
            Rule((("send", "k", 0, "save"), ("take", "l", 0, "note")), RULE.states[1]),
        ):
            self.assert_equal(RULE, other, False)
        for value in EVERY + (RULE.states, str(RULE)):
            self.assert_equal(RULE, value, value.__class__ is Rule and value.states == RULE.states)


class Free(RuleCase):
    def test_state_by_state(self):
        for rng, drawn in draws(60, seed=81, processes=(2, 4), kinds=(0, 4)):
            kinds = {kind: drawn[kind] for kind in drawn.kinds}
            rules = draw_rules(rng, drawn)
            program = free_program(kinds, rules)
            self.assertEqual([program.processes, program.kinds], [drawn.processes, drawn.kinds])
            for kind in kinds:
                self.assertEqual(program[kind], kinds[kind])
            for name in program.processes:
                acts = sorted([("send", kind) for kind in kinds if kinds[kind][0] == name]
                              + [("take", kind) for kind in kinds if kinds[kind][1] == name])
                expected = []
                for state in range(len(rules[name])):
                    row = []
                    for act, kind in acts:
                        target, keeping = told(rules[name], state, act, kind)
                        row.append((act, kind, target, 0 if keeping is None else 1, keeping))
                    expected.append(tuple(row))
                self.assertEqual(program[name].states, tuple(expected))

    def test_the_order_of_the_dicts_has_no_effect(self):
        backward = {name: RULES[name] for name in ("b", "a")}
        self.assertEqual(free_program({kind: KINDS[kind] for kind in ("tell", "ask")}, backward), free_program(KINDS, RULES))

    def test_entries_for_kinds_of_others_do_nothing(self):
        other = {"a": Rule.each(("send", "ask"), ("send", "tell"), ("take", "ask"), ("take", "z")), "b": RULES["b"]}
        self.assertEqual(free_program(KINDS, other), free_program(KINDS, RULES))

    def test_losses_of_the_free_program(self):
        for rng, drawn in draws(40, seed=82):
            kinds = {kind: drawn[kind] for kind in drawn.kinds}
            rules = draw_rules(rng, drawn, 2)
            for failed in drawn.processes:
                for process in drawn.processes:
                    try:
                        expected = greatest_loss(free_program(kinds, rules), failed, process)
                    except TooMany:
                        self.assert_raises(TooMany(2000), lambda: rule_loss(kinds, rules, failed, process))
                        continue
                    self.assertEqual(rule_loss(kinds, rules, failed, process), expected)

    def test_what_follows_the_rules_loses_no_more(self):
        many = 0
        for rng, drawn in draws(60, seed=83, kinds=(1, 2)):
            kinds = {kind: drawn[kind] for kind in drawn.kinds}
            rules = draw_rules(rng, drawn, 2)
            try:
                most, found = losses(free_program(kinds, rules)), losses(ruled(drawn, rules))
            except TooMany:
                continue
            for failed in drawn.processes:
                for process in drawn.processes:
                    if most[failed][process] is not None:
                        many += 1
                        self.assertIsNotNone(found[failed][process])
                        self.assertLessEqual(found[failed][process], most[failed][process])
        self.assertGreater(many, 60)


class Ruled(RuleCase):
    def test_state_by_state(self):
        many = 0
        for rng, drawn in draws(80, seed=84):
            rules = draw_rules(rng, drawn, 2)
            tables = {name: self.table(drawn[name], rules[name]) for name in drawn.processes}
            if max(len(table) for table in tables.values()) > 6:
                self.assert_raises(TooMany(6), lambda: ruled(drawn, rules))
                continue
            program = ruled(drawn, rules)
            self.assertEqual([program[kind] for kind in program.kinds], [drawn[kind] for kind in drawn.kinds])
            for name in drawn.processes:
                pairs = sorted(tables[name])
                many += len(pairs)
                expected = tuple(tuple(move[:2] + (pairs.index(move[2]),) + move[3:] for move in tables[name][pair])
                                 for pair in pairs)
                self.assertEqual(program[name].states, expected)
                self.assertEqual(len(program[name][0]), len(drawn[name][0]))
        self.assertGreater(many, 250)

    def table(self, machine, rule):
        """The dict from the pairs of states to their moves, with pairs as targets."""
        found, ahead = {}, [(0, 0)]
        while ahead:
            pair = ahead.pop(0)
            if pair in found:
                continue
            found[pair] = []
            for act, kind, target, _, _ in machine.states[pair[0]]:
                other, keeping = (pair[1], None) if kind is None else told(rule, pair[1], act, kind)
                found[pair].append((act, kind, (target, other), 0 if keeping is None else 1, keeping))
                ahead.append((target, other))
        return found

    def test_old_keepings_and_prices_are_gone(self):
        idle = {name: Rule(()) for name in RING.processes}
        self.assertEqual(ruled(RING, idle), RING.talk.priced(0))
        self.assertEqual(ruled(CALM, RULES), TALK.priced(0).with_machine(
            "a", Machine((("send", "ask", 0, 1, "save"), ("take", "tell", 0, 0, None)))).with_machine(
            "b", Machine((("take", "ask", 0, 0, None), ("send", "tell", 0, 1, "save")))))

    def test_the_free_program_follows_its_rules(self):
        for rng, drawn in draws(40, seed=85):
            kinds = {kind: drawn[kind] for kind in drawn.kinds}
            rules = draw_rules(rng, drawn, 2)
            free = free_program(kinds, rules)
            found = ruled(free, rules)
            for name in free.processes:
                # Of the pairs of states only those with two equal ones can be reached.
                self.assertLessEqual(len(found[name]), len(free[name]))
            if all(len(found[name]) == len(free[name]) for name in free.processes):
                self.assertEqual(found, free)

    def test_six_states_and_seven(self):
        def ring(many):
            return Machine(*[(("send", "m", (at + 1) % many, 0, None),) for at in range(many)])

        turning = {"p": Rule((("send", "m", 1, None),), (("send", "m", 0, "save"),)), "q": Rule(())}
        for many, states in ((3, 6), (6, 6), (2, 2), (4, 4)):
            self.assertEqual(len(ruled(ONCE.with_machine("p", ring(many)), turning)["p"]), states)
        self.assert_raises(TooMany(6), lambda: ruled(ONCE.with_machine("p", ring(5)), turning))
        self.assertEqual(len(ruled(ONCE.with_machine("p", ring(5)), {"p": Rule(()), "q": Rule(())})["p"]), 5)


class Errors(RuleCase):
    def test_no_rules(self):
        wrong = (
            [RULES], list(RULES.items()), {"a": 0, "b": RULE}, {"a": RULE, "B": RULE}, {0: RULE}, {"": RULE}, {None: RULE},
            {"a": RULE.states, "b": RULE}, {"a": RULE, ("b",): RULE},
        )
        for value in wrong + tuple(without(EVERY, {})):
            for kinds in (KINDS, 0, {0: 0}):
                self.assert_raises(InvalidOperation(), lambda: free_program(kinds, value))
                self.assert_raises(InvalidOperation(), lambda: rule_loss(kinds, value, 0, 0))
            self.assert_raises(InvalidOperation(), lambda: ruled(TALK, value))

    def test_no_such_program(self):
        kind = ("a", "b", 1, True)
        for value in without(EVERY, {}):
            if value not in ({0: 0}, {(0, 0): ()}):
                self.assert_raises(InvalidProgram(), lambda: free_program(value, RULES))
                self.assert_raises(InvalidProgram(), lambda: rule_loss(value, RULES, "a", "b"))
            self.assert_raises(InvalidProgram(), lambda: free_program({"k": value}, RULES))
        for kinds in ({0: kind}, {"K": kind}, {"": 0}, {0: 0}, {(0, 0): ()}):
            self.assert_raises(InvalidWord(), lambda: free_program(kinds, RULES))
            self.assert_raises(InvalidWord(), lambda: rule_loss(kinds, RULES, "a", "b"))
        seven = {name: kind for name in ("k", "l", "m", "n", "o", "p", "q")}
        wrong = (
            (seven, RULES), (KINDS, {"a": RULE}), (KINDS, {}), ({"a": kind}, RULES), ({"k": ("a", "c", 1, True)}, RULES),
            ({"k": ("a", "b", 3, True)}, RULES), (KINDS, {name: RULE for name in "abcde"}), ({"k": ["a", "b", 1, True]}, RULES),
        )
        for kinds, rules in wrong:
            self.assert_raises(InvalidProgram(), lambda: free_program(kinds, rules))
        self.assert_raises(InvalidWord(), lambda: free_program({0: kind}, {}))

    def test_no_process(self):
        for value in without(EVERY, "a") + ["ask", "c"]:
            for kinds in (KINDS, {0: 0}, None):
                self.assert_raises(UnknownName(value), lambda: rule_loss(kinds, RULES, value, 0))
                self.assert_raises(UnknownName(value), lambda: rule_loss(kinds, RULES, "b", value))

    def test_too_many_standings(self):
        kinds = {name: pair + (2, True) for name, pair in zip("klmn", (("a", "b"), ("b", "c"), ("c", "d"), ("d", "a")))}
        rules = {name: Rule.each(("take", "k"), ("send", "l"), ("send", "m"), ("take", "n")) for name in "abcd"}
        program = free_program(kinds, rules)
        self.assertEqual(len(program.kinds), 4)
        self.assert_raises(TooMany(2000), lambda: standings(program))
        self.assert_raises(TooMany(2000), lambda: rule_loss(kinds, rules, "a", "b"))
        self.assert_raises(UnknownName("e"), lambda: rule_loss(kinds, rules, "a", "e"))

    def test_ruled(self):
        for value in without(EVERY, TALK):
            self.assert_raises(InvalidProgram(), lambda: ruled(value, 0))
        for rules in ({}, {"a": RULE}, {"a": RULE, "c": RULE}, {"a": RULE, "b": RULE, "c": RULE}, {"a": RULE, "ask": RULE}):
            self.assert_raises(InvalidOperation(), lambda: ruled(TALK, rules))

    def test_what_was_passed_stays(self):
        kinds, rules = dict(KINDS), dict(RULES)
        before = copy.copy(kinds), copy.copy(rules)
        program = free_program(kinds, rules)
        rule_loss(kinds, rules, "a", "b"), ruled(TALK, rules)
        self.assertEqual((kinds, rules), before)
        kinds.clear(), rules.clear()
        self.assertEqual(program, free_program(KINDS, RULES))
        for one in EVERY_PROGRAM:
            same = Program({name: one[name] for name in one.processes}, {kind: one[kind] for kind in one.kinds})
            ruled(one, {name: Rule(()) for name in one.processes})
            self.assertEqual(one, same)
        self.assertEqual(len(LOSSY.marks), 4)


if __name__ == "__main__":
    unittest.main()
