"""Which rows may come next behind a row, and to which a name comes as it is behind one."""

from slicewise.bits import has, set_of
from slicewise.layouts import Layout, no_row, row_behind, yes_row
from slicewise.rows import makes


def nexts(program, row):
    return next_rows(Layout(program), row)


def next_rows(layout, place):
    word = layout.program[place][0]
    if layout.homes[place] is None or word == "give":
        return []
    if word in ("if", "while"):
        return sorted(set([yes_row(place), no_row(layout, place)]))
    return [row_behind(layout, place)]


def all_nexts(layout):
    return [next_rows(layout, place) for place in range(len(layout.program))]


def comes_to(program, row, name):
    return spread(program, all_nexts(Layout(program)), row, name)


# followers has the rows that may come next, for each row.
def spread(program, followers, row, name):
    told = 0
    waiting = list(followers[row])
    while len(waiting) > 0:
        place = waiting.pop()
        if not has(told, place):
            told |= set_of([place])
            if name not in makes(program[place]):
                waiting.extend(followers[place])
    return told
