"""Programs: how one is made of rows, what is refused, and what shape it has."""

from slicewise.errors import NoBlock, NoCall, NoRow, TooGreat
from slicewise.rows import is_row

MOST_ROWS = 60
OPENERS = ("def", "if", "while")
CLOSERS = ("give", "end")


# The checks stand in the order in which refusals are due: each one builds on those ahead of it.
def program_of(rows):
    program = list(rows)
    if len(program) > MOST_ROWS:
        raise TooGreat(f"a program has at most {MOST_ROWS} rows")
    check_rows(program)
    check_blocks(program)
    check_calls(program)
    return program


def check_rows(program):
    for place, row in enumerate(program):
        if not is_row(row):
            raise NoRow(place)


def check_blocks(program):
    opened = []
    for place, row in enumerate(program):
        if not may_stand(opened, row[0]):
            raise NoBlock(place)
        go_past(opened, row[0])
    if len(opened) > 0:
        raise NoBlock(len(program))


# opened has the words of what is open, the innermost last; an if behind its else is open as an
# else, so that no second one fits.
def may_stand(opened, word):
    if len(opened) == 0:
        return word in ("def", "skip")
    if word == "give":
        return opened[-1] == "def"
    if word == "else":
        return opened[-1] == "if"
    if word == "end":
        return opened[-1] != "def"
    return word != "def"


def go_past(opened, word):
    if word in OPENERS:
        opened.append(word)
    elif word in CLOSERS:
        opened.pop()
    elif word == "else":
        opened[-1] = "else"


def check_calls(program):
    firsts = first_defs(program)
    for place, row in enumerate(program):
        if row[0] == "def" and firsts[row[1]] != place:
            raise NoCall(place)
        if row[0] == "call" and not may_call(program, firsts, place):
            raise NoCall(place)


# A name may still stand at several defs here: a call is held against the first one.
def first_defs(program):
    firsts = {}
    for place, row in enumerate(program):
        if row[0] == "def":
            firsts.setdefault(row[1], place)
    return firsts


def may_call(program, firsts, place):
    row = program[place]
    first = firsts.get(row[2])
    if first is None or first < place:
        return False
    return len(program[first][2]) == len(row[3])


def shape(program):
    heads = [None] * len(program)
    ends = [None] * len(program)
    elses = [None] * len(program)
    homes = [None] * len(program)
    opened = []
    for place, row in enumerate(program):
        if len(opened) > 0:
            heads[place] = opened[-1]
            homes[place] = opened[0]
        if row[0] == "def":
            homes[place] = place
        if row[0] == "else":
            elses[opened[-1]] = place
        if row[0] in CLOSERS:
            ends[opened[-1]] = place
            opened.pop()
        if row[0] in OPENERS:
            opened.append(place)
    return (heads, ends, elses, homes)
