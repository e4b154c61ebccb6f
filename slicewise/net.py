"""Which row leans on which: ties and nets."""

from slicewise.bits import has, set_of
from slicewise.comes import all_nexts, spread
from slicewise.layouts import Layout, calls_of
from slicewise.makers import holds, makers
from slicewise.rows import SILENT, class_of, makes, risky, uses


# What ties are told from, found once for all rows of a program.
class Facts:
    def __init__(self, program):
        self.layout = Layout(program)
        self.table = makers(program)
        self.arrivals = arrivals_of(self.layout)


# To which rows each name that a row makes comes, by (row, name).
def arrivals_of(layout):
    followers = all_nexts(layout)
    told = {}
    for place, row in enumerate(layout.program):
        for name in makes(row):
            told[(place, name)] = spread(layout.program, followers, place, name)
    return told


def ties(program, row, strict=False):
    return ties_of(Facts(program), row, strict)


def net_of(program, strict=False):
    facts = Facts(program)
    told = []
    for place in range(len(program)):
        told.append(set_of([tie[0] for tie in ties_of(facts, place, strict)]))
    return told


def ties_of(facts, place, strict):
    layout = facts.layout
    if layout.homes[place] is None or layout.program[place][0] in SILENT:
        return []
    told = name_ties(facts, place) + cell_ties(facts, place) + frame_ties(layout, place)
    if strict:
        told.extend(stop_ties(layout, place))
    return sorted(told)


# A name comes to no row of another function, so arrivals keep within the row's own.
def name_ties(facts, place):
    used = uses(facts.layout.program[place])
    return [(key[0], "name", key[1]) for key, rows in facts.arrivals.items() if key[1] in used and has(rows, place)]


def cell_ties(facts, place):
    program = facts.layout.program
    if program[place][0] != "get":
        return []
    kind = class_of(program[place][3])
    told = []
    for other, row in enumerate(program):
        if row[0] == "set" and class_of(row[2]) == kind and may_meet(facts, place, other):
            told.append((other, "cell", kind))
    return told


def may_meet(facts, getter, setter):
    return records_of(facts, getter, 2) & records_of(facts, setter, 1) != 0


def records_of(facts, place, part):
    return holds(facts.table, facts.layout.homes[place], facts.layout.program[place][part])


# The ties by blocks and functions: head, call, give.
def frame_ties(layout, place):
    row = layout.program[place]
    if row[0] == "def":
        return [(other, "call", row[1]) for other in calls_of(layout, row[1])]
    told = [(layout.heads[place], "head", "")]
    if row[0] == "call":
        told.append((layout.ends[layout.defs[row[2]]], "give", row[2]))
    return told


def stop_ties(layout, place):
    told = []
    for other, row in enumerate(layout.program):
        if risky(row) and other != place and may_come_ahead(layout, other, place):
            told.append((other, "stop", ""))
    return told


# Main is done once from its top down, so there only a while brings a later row ahead.
def may_come_ahead(layout, other, place):
    if layout.homes[other] != layout.main or layout.homes[place] != layout.main or other < place:
        return True
    return whiles_round(layout, other) & whiles_round(layout, place) != 0


def whiles_round(layout, place):
    told = 0
    while place is not None:
        if layout.program[place][0] == "while":
            told |= set_of([place])
        place = layout.heads[place]
    return told
