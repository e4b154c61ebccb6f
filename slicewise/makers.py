"""Which records a name may hold, told by the new rows that make them: tables."""

from slicewise.bits import has, members
from slicewise.layouts import Layout
from slicewise.rows import class_of


# A table under way: both dicts have sets of new rows, by (home, name) and by (row, class).
class Sets:
    def __init__(self, names, cells):
        self.names = names
        self.cells = cells


def makers(program):
    layout = Layout(program)
    sets = Sets({}, {})
    while grown(layout, sets):
        pass
    return (list_of(sets.names), list_of(sets.cells))


def closed(program, table):
    return not grown(Layout(program), Sets(dict_of(table[0]), dict_of(table[1])))


def holds(table, home, name):
    told = 0
    for part in table[0]:
        if part[0] == home and part[1] == name:
            told |= part[2]
    return told


def keeps(table, rows, kind):
    told = 0
    for part in table[1]:
        if has(rows, part[0]) and part[1] == kind:
            told |= part[2]
    return told


def dict_of(parts):
    return dict([((part[0], part[1]), part[2]) for part in parts])


def list_of(held):
    return sorted([(key[0], key[1], told) for key, told in held.items() if told != 0])


# Adds what a closed table would have to have, row by row; tells whether anything was lacking.
def grown(layout, sets):
    lacking = False
    for place, home in enumerate(layout.homes):
        if home is not None:
            for held, key, wanted in wants(layout, sets, place):
                before = held.get(key, 0)
                held[key] = before | wanted
                lacking = lacking or held[key] != before
    return lacking


# What a row asks of a closed table: tuples of a dict of sets, a key there, and what this must have.
# A number as an operand is no name that any set is kept for, so it asks for nothing.
def wants(layout, sets, place):
    row = layout.program[place]
    home = layout.homes[place]
    names = sets.names
    if row[0] == "new":
        return [(names, (home, row[1]), 1 << place)]
    if row[0] == "put":
        return [(names, (home, row[1]), names.get((home, row[2]), 0))]
    if row[0] == "get":
        return [(names, (home, row[1]), read_cells(sets, names.get((home, row[2]), 0), class_of(row[3])))]
    if row[0] == "set":
        given = names.get((home, row[3]), 0)
        return [(sets.cells, (one, class_of(row[2])), given) for one in members(names.get((home, row[1]), 0))]
    if row[0] == "call":
        return call_wants(layout, names, place)
    return []


def read_cells(sets, rows, kind):
    told = 0
    for row in members(rows):
        told |= sets.cells.get((row, kind), 0)
    return told


def call_wants(layout, names, place):
    row = layout.program[place]
    home = layout.homes[place]
    start = layout.defs[row[2]]
    given = layout.program[layout.ends[start]][1]
    told = [(names, (home, row[1]), names.get((start, given), 0))]
    for name, operand in zip(layout.program[start][2], row[3]):
        told.append((names, (start, name), names.get((home, operand), 0)))
    return told
