"""Of a program only some rows, and of a run only their doings."""

from slicewise.bits import has
from slicewise.layouts import Layout


def only(program, rows):
    layout = Layout(program)
    stays = []
    for place in range(len(program)):
        stays.append(does_stay(layout, rows, stays, place))
    return [left_row(layout, stays, place) for place in range(len(program))]


# stays tells of the rows further up, and so of each head.
def does_stay(layout, rows, stays, place):
    word = layout.program[place][0]
    head = layout.heads[place]
    if word == "def":
        return def_stays(layout, rows, place)
    if head is None or not stays[head]:
        return False
    if word in ("else", "end"):
        return True
    if word == "call" and not def_stays(layout, rows, layout.defs[layout.program[place][2]]):
        return False
    return has(rows, place)


def def_stays(layout, rows, place):
    return place == layout.main or has(rows, place)


def left_row(layout, stays, place):
    row = layout.program[place]
    if stays[place]:
        return row
    # Without a give its function would be open at the end.
    if row[0] == "give" and stays[layout.homes[place]]:
        return ("give", 0)
    return ("skip",)


def kept(doings, rows):
    return [doing for doing in doings if has(rows, doing[0])]
