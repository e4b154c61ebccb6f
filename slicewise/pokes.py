"""Pokes: a run in which one doing makes another number, and what came of it."""

from slicewise.errors import NoPlace
from slicewise.runs import run, run_poked
from slicewise.values import fit

POKED_WORDS = ("put", "do", "new", "get", "set", "give")


def poked(program, inputs, index, number, most=200):
    doings = run(program, inputs, most)[0]
    if not 0 <= index < len(doings) or not may_be_poked(program, doings[index]):
        raise NoPlace(f"there is no doing {index} that may be poked")
    return run_poked(program, inputs, most, (index, fit(number)))


def may_be_poked(program, doing):
    return program[doing[0]][0] in POKED_WORDS and doing[2] is not None


def came_of(doings, others, some):
    first = some[0]
    for index in range(first + 1):
        if index >= len(others) or others[index][0] != doings[index][0]:
            return ("parted", index)
    for index in reversed(some[:-1]):
        if doings[index] == others[index]:
            return ("lost", index)
    return ("changed", first)
