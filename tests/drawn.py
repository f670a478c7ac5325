"""Small programs, runs and histories, drawn from a seed."""

import random

from fallsback.base.machines import Machine
from fallsback.base.programs import Program
from fallsback.errors import TooMany
from fallsback.rows.standings import standings
from fallsback.run.histories import behind_failure
from fallsback.run.runs import Run
from tests import slow


def draw_program(rng, processes=(2, 3), kinds=(1, 3), states=2, moves=3):
    """A program with so many processes and kinds, and with at most so many states and moves."""
    names = sorted(rng.sample(["a", "b", "c", "d"], rng.randint(*processes)))
    tuples = {}
    for kind in rng.sample(["k", "l", "m", "aa"], rng.randint(*kinds)):
        sender, receiver = rng.sample(names, 2)
        tuples[kind] = (sender, receiver, rng.randint(1, 2), rng.random() < 0.6)
    return Program({name: draw_machine(rng, name, tuples, states, moves) for name in names}, tuples)


def draw_machine(rng, name, kinds, states, moves):
    many = rng.randint(1, states)
    sent = [("send", kind) for kind in kinds if kinds[kind][0] == name]
    taken = [("take", kind) for kind in kinds if kinds[kind][1] == name]
    acts = [("work", None), ("output", None)] + 3 * sent + 3 * taken
    return Machine(*[
        tuple(draw_move(rng, acts, many) for _ in range(rng.randint(1, moves)))
        for _ in range(many)
    ])


def draw_move(rng, acts, many):
    act, kind = rng.choice(acts)
    keepings = [None, None, "save"] + (["note", "note"] if act == "take" else [])
    return (act, kind, rng.randrange(many), rng.choice((0, 1, 1, 2, 9)), rng.choice(keepings))


def draw_run(rng, program, many):
    """A run with at most so many steps."""
    run = Run(program)
    for _ in range(many):
        if not run.possible:
            break
        run = run.longer(rng.choice(run.possible))
    return run


def draw_failed(rng, program):
    """Some processes that fail, in any order."""
    return rng.sample(program.processes, rng.randint(1, len(program)))


def draw_history(rng, program, many):
    """The events of a history with at most so many of them, and the run that they leave."""
    run, events = Run(program), []
    for _ in range(many):
        if not run.possible or rng.random() < 0.15:
            failed = sorted(draw_failed(rng, program))
            events.append(tuple(failed))
            run = behind_failure(run, *failed)
        else:
            events.append(rng.choice(run.possible))
            run = run.longer(events[-1])
    return tuple(events), run


def draws(many, seed=1, **sizes):
    """So many pairs of a source of numbers and a drawn program."""
    for number in range(many):
        rng = random.Random(seed * 1000 + number)
        yield rng, draw_program(rng, **sizes)


def small_draws(many, seed, most=60):
    """So many drawn programs with at most so many standings, and what a slow search finds in them."""
    found = 0
    for rng, program in draws(3 * many, seed=seed):
        if found < many and has_few_standings(program, most):
            found += 1
            yield rng, program, slow.explore(program)


def has_few_standings(program, most):
    try:
        return len(standings(program)) <= most
    except TooMany:
        return False
