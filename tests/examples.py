"""Runs examples in the form in which the document writes them."""

import ast


def run_examples(case, text, names):
    """Runs the lines behind `>>> ` and compares what they give with the lines below them."""
    known = dict(names)
    lines = text.strip().split("\n")
    for at, line in enumerate(lines):
        if line.startswith(">>> "):
            below = lines[at + 1] if at + 1 < len(lines) else ">>> "
            run_line(case, line[4:], below, known)


def run_line(case, code, below, known):
    if below.startswith(">>> "):
        exec(code, known)
    elif below.startswith("raises "):
        told, _, kept = below[len("raises "):].partition("(")
        error = raised(lambda: eval(code, known))
        case.assertEqual(error.__class__.__name__, told, code)
        if kept:
            case.assertEqual(", ".join([repr(arg) for arg in error.args]) + ")", kept, code)
    else:
        # Evaluated once: some calls change an object.
        value = eval(code, known)
        case.assertEqual(value, ast.literal_eval(below), code)
        case.assertEqual(repr(value), below, code)


def raised(call):
    """The error that the call raises."""
    try:
        call()
    except Exception as error:
        return error
    raise AssertionError("no error was raised")
