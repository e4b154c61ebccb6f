"""Why a row was not done, and which inputs do it."""

from slicewise.errors import Done
from slicewise.layouts import Layout, calls_of
from slicewise.runs import run


# What a run did: its rows, and the sides to which its ifs and whiles went.
class Deeds:
    def __init__(self, doings):
        self.rows = dict([(doing[0], True) for doing in doings])
        self.sides = dict([((doing[0], doing[2]), True) for doing in doings])


def why_not(program, doings, row):
    layout = Layout(program)
    deeds = Deeds(doings)
    if row in deeds.rows:
        raise Done(f"row {row} was done")
    told = []
    asked = {row: True}
    waiting = [row]
    # A row that was not done is asked of once, however many calls lead to it.
    while len(waiting) > 0:
        place = waiting.pop()
        told.extend(reasons(layout, deeds, place))
        for other in undone_ahead(layout, deeds, place):
            if other not in asked:
                asked[other] = True
                waiting.append(other)
    # Several rows may stand under the one head that went otherwise.
    return sorted(set(told))


# Without whom a row can't be done: its head, or of a def the calls of its function.
def rows_ahead(layout, place):
    row = layout.program[place]
    return calls_of(layout, row[1]) if row[0] == "def" else [layout.heads[place]]


def undone_ahead(layout, deeds, place):
    return [other for other in rows_ahead(layout, place) if other not in deeds.rows]


def reasons(layout, deeds, place):
    if layout.program[place][0] != "def":
        head = layout.heads[place]
        return [head_reason(layout, deeds, head, place)] if head in deeds.rows else []
    if place == layout.main:
        return [(place, "end", -1)]
    calls = rows_ahead(layout, place)
    if len(calls) == 0:
        return [(place, "dead", -1)]
    return [(call, "end", -1) for call in calls if call in deeds.rows]


def head_reason(layout, deeds, head, place):
    if layout.program[head][0] != "def":
        side = side_of(layout, head, place)
        if (head, side) not in deeds.sides:
            return (head, "way", side)
    return (head, "end", -1)


def side_of(layout, head, place):
    other = layout.elses[head]
    return 0 if other is not None and place > other else 1


def doers(program, row, some, most=200):
    for number, inputs in enumerate(some):
        doings = run(program, inputs, most)[0]
        if any([doing[0] == row for doing in doings]):
            return number
    return None
