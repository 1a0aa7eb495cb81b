"""Runs the document's examples: files of lines as they stand in it, names going on from line to line."""

import os
import re

FOLDER = os.path.join(os.path.dirname(__file__), "examples")


def read(name):
    """The triples (number of the line, code, expected line or None) of the file with this name."""
    with open(os.path.join(FOLDER, name), encoding="ascii") as file:
        lines = file.read().splitlines()
    rows = []
    for number, line in enumerate(lines, 1):
        if line.startswith(">>> "):
            rows.append((number, line[4:], None))
        else:
            start, code, told = rows[-1]
            assert told is None, number
            rows[-1] = (start, code, line)
    return rows


def raised_text(error):
    """An error as the document writes it: raises Name(attribute=value)."""
    kept = ", ".join(f"{name}={value!r}" for name, value in vars(error).items())
    return f"raises {type(error).__name__}({kept})"


def value_of(code, names):
    """The value of an expression; None for a statement, which is done."""
    try:
        expression = compile(code, "example", "eval")
    except SyntaxError:
        exec(code, names)
        return None
    return eval(expression, names)


def compare(code, told, names):
    """None if the code gives what is told, otherwise what it gives."""
    if told is None:
        exec(code, names)
        return None
    try:
        value = value_of(code, names)
    except (LookupError, ValueError) as error:
        return None if raised_text(error) == told else raised_text(error)
    if re.match(r"raises [A-Z]", told):
        return repr(value)
    wanted = eval(told, {})
    return None if repr(value) == repr(wanted) and value == wanted else repr(value)


def failures(name, names, amended=()):
    """What goes wrong in the file with this name: the list of (line, code, told, given).

    amended: pairs of strings, the second of which is run where the first one stands.
    """
    wrong = []
    for number, code, told in read(name):
        for printed, meant in amended:
            code = code.replace(printed, meant)
        given = compare(code, told, names)
        if given is not None:
            wrong.append((number, code, told, given))
    return wrong
