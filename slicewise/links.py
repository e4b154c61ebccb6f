"""What each doing of one run came from: links, slices of a run, chains."""

from slicewise.bits import members, set_of
from slicewise.layouts import Layout
from slicewise.rows import class_of, makes, uses
from slicewise.runs import run
from slicewise.slices import back, way
from slicewise.values import cell_of


# A call of a function: call is the index of the doing that began it (of main None), names and
# lasts have the index of the doing that last made a name, or of a row.
class Calling:
    def __init__(self, call):
        self.call = call
        self.names = {}
        self.lasts = {}


class Trace:
    def __init__(self, program, doings):
        self.layout = Layout(program)
        self.doings = doings
        self.callings = []
        self.writers = {}


def linked(program, inputs, most=200):
    told = run(program, inputs, most)
    return (told[0], links_of(program, told[0]), told[1])


# The doings are gone through once more: they tell enough to know what each came from.
def links_of(program, doings):
    trace = Trace(program, doings)
    told = []
    for index, doing in enumerate(doings):
        # A def is always done right behind its call.
        if program[doing[0]][0] == "def":
            trace.callings.append(Calling(index - 1 if index > 0 else None))
        told.append(links_to(trace, doing))
        note_made(trace, index)
    return told


def links_to(trace, doing):
    row = trace.layout.program[doing[0]]
    calling = trace.callings[-1]
    told = [(calling.names[name], "name", name) for name in uses(row) if name in calling.names]
    head = trace.layout.heads[doing[0]]
    if head is not None:
        told.append((calling.lasts[head], "head", ""))
    if row[0] == "get":
        writer = trace.writers.get(cell_of(row[3], doing[1]))
        if writer is not None:
            told.append((writer, "cell", class_of(row[3])))
    if row[0] == "def" and calling.call is not None:
        told.append((calling.call, "call", row[1]))
    return sorted(told)


def note_made(trace, index):
    doing = trace.doings[index]
    row = trace.layout.program[doing[0]]
    calling = trace.callings[-1]
    calling.lasts[doing[0]] = index
    if row[0] == "set":
        cell = cell_of(row[2], doing[1])
        if cell is not None:
            trace.writers[cell] = index
    elif row[0] == "give":
        note_given(trace, index)
    # What a call makes is there only when its function gives.
    elif row[0] != "call":
        for name in makes(row):
            calling.names[name] = index


def note_given(trace, index):
    call = trace.callings.pop().call
    if call is not None:
        row = trace.layout.program[trace.doings[call][0]]
        trace.callings[-1].names[row[1]] = index


def run_slice(links, index):
    return members(back(net_of_links(links), 1 << index))


def chain(links, index, other):
    return way(net_of_links(links), index, other)


def net_of_links(links):
    return [set_of([link[0] for link in some]) for some in links]
