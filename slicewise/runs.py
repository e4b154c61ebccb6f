"""Runs: a program is done row by row."""

from slicewise.layouts import Layout, no_row, row_behind, yes_row
from slicewise.rows import SILENT, is_name, operands
from slicewise.values import cell_of, fit, reckoned


# A call of a function that has not given yet; of main call is None.
class Frame:
    def __init__(self, call, names):
        self.call = call
        self.names = names


class Machine:
    def __init__(self, program, most, poke):
        self.layout = Layout(program)
        self.most = most
        self.poke = poke
        self.frames = []
        self.cells = {}
        self.counts = {}
        self.doings = []
        self.place = None
        self.ended = None


def enter(machine, place, call, given):
    names = {}
    for at, name in enumerate(machine.layout.program[place][2]):
        names[name] = given[at] if at < len(given) else 0
    machine.frames.append(Frame(call, names))
    machine.place = place


def value_of(machine, part):
    return machine.frames[-1].names.get(part, 0) if is_name(part) else part


def made_by(machine, row, used):
    word = row[0]
    if word == "do":
        return reckoned(used[0], row[3], used[1])
    if word == "new":
        return (machine.place, machine.counts.get(machine.place, 0))
    if word == "get":
        return machine.cells.get(cell_of(row[3], used), 0)
    if word in ("if", "while"):
        return 0 if used[0] == 0 else 1
    return used[-1] if word in ("give", "put", "set") else None


def follow_plain(machine, row, used, made):
    machine.place = row_behind(machine.layout, machine.place)


def follow_name(machine, row, used, made):
    machine.frames[-1].names[row[1]] = made
    follow_plain(machine, row, used, made)


def follow_do(machine, row, used, made):
    if made is None:
        machine.ended = ("fault", "zero")
    else:
        follow_name(machine, row, used, made)


def follow_new(machine, row, used, made):
    machine.counts[machine.place] = machine.counts.get(machine.place, 0) + 1
    follow_name(machine, row, used, made)


def follow_set(machine, row, used, made):
    cell = cell_of(row[2], used)
    # Nothing is ever kept for None, so that a get of no record finds nothing there.
    if cell is not None:
        machine.cells[cell] = made
    follow_plain(machine, row, used, made)


def follow_call(machine, row, used, made):
    enter(machine, machine.layout.defs[row[2]], machine.place, used)


def follow_give(machine, row, used, made):
    call = machine.frames.pop().call
    if call is None:
        machine.ended = ("done", made)
    else:
        machine.place = call
        follow_name(machine, machine.layout.program[call], used, made)


def follow_fail(machine, row, used, made):
    machine.ended = ("fault", row[1])


def follow_choice(machine, row, used, made):
    machine.place = yes_row(machine.place) if made == 1 else no_row(machine.layout, machine.place)


FOLLOWERS = {
    "def": follow_plain,
    "give": follow_give,
    "put": follow_name,
    "do": follow_do,
    "new": follow_new,
    "get": follow_name,
    "set": follow_set,
    "call": follow_call,
    "fail": follow_fail,
    "if": follow_choice,
    "while": follow_choice,
}


def done_row(machine, row):
    parts = row[2] if row[0] == "def" else operands(row)
    used = tuple([value_of(machine, part) for part in parts])
    made = made_by(machine, row, used)
    if machine.poke is not None and machine.poke[0] == len(machine.doings):
        made = machine.poke[1]
    machine.doings.append((machine.place, used, made))
    FOLLOWERS[row[0]](machine, row, used, made)


def step(machine):
    row = machine.layout.program[machine.place]
    if row[0] in SILENT:
        machine.place = row_behind(machine.layout, machine.place)
    elif len(machine.doings) >= machine.most:
        machine.ended = ("cut", 0)
    else:
        done_row(machine, row)


def run(program, inputs, most=200):
    return run_poked(program, inputs, most, None)


# poke is a tuple of a doing's index and the number that it makes, or None.
def run_poked(program, inputs, most, poke):
    machine = Machine(program, most, poke)
    main = machine.layout.main
    if main is None:
        machine.ended = ("done", 0)
    else:
        enter(machine, main, None, [fit(number) for number in inputs])
    while machine.ended is None:
        step(machine)
    return (machine.doings, machine.ended)
