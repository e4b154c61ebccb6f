"""Papers: why a row matters nothing to a set of rows, so that a checker can go along."""

from slicewise.bits import has, members, set_of
from slicewise.comes import comes_to, next_rows
from slicewise.layouts import Layout
from slicewise.makers import closed, holds
from slicewise.rows import class_of, makes, uses


def paper(program, table, rows, row):
    layout = Layout(program)
    spreads = dict([(name, comes_to(program, row, name)) for name in makes(program[row])])
    told = []
    for near, word, what in claims(layout, rows, row):
        if word == "over":
            told.append((near, word, what, spreads[what], 0))
        else:
            told.append((near, word, what, records_at(layout, table, near, 2), records_at(layout, table, row, 1)))
    return told


# What a paper has to tell of: sorted tuples (near, word, what), no two alike.
def claims(layout, rows, place):
    told = []
    for near in members(rows):
        if layout.homes[near] == layout.homes[place]:
            used = uses(layout.program[near])
            told.extend([(near, "over", name) for name in makes(layout.program[place]) if name in used])
        if may_share_cell(layout.program[near], layout.program[place]):
            told.append((near, "apart", class_of(layout.program[near][3])))
    return sorted(told)


def may_share_cell(getter, setter):
    if getter[0] != "get" or setter[0] != "set":
        return False
    return class_of(getter[3]) == class_of(setter[2])


# The makers by the table of the name that is the row's part at this place in it.
def records_at(layout, table, place, part):
    return holds(table, layout.homes[place], layout.program[place][part])


def checked(program, table, rows, row, told):
    layout = Layout(program)
    if not closed(program, table) or bears(layout, rows, row):
        return False
    if [part[:3] for part in told] != claims(layout, rows, row):
        return False
    return all([is_right(layout, table, row, part) for part in told])


# Whether a row of the set leans on the row by a head, a call or a give, which no paper can talk away.
def bears(layout, rows, place):
    row = layout.program[place]
    if any([layout.heads[near] == place for near in members(rows)]):
        return True
    if row[0] == "call":
        return has(rows, layout.defs[row[2]])
    if row[0] == "give":
        function = layout.program[layout.homes[place]][1]
        called = [layout.program[near] for near in members(rows)]
        return any([other[0] == "call" and other[2] == function for other in called])
    return False


def is_right(layout, table, place, part):
    near = part[0]
    ones = part[3]
    others = part[4]
    if part[1] == "over":
        return others == 0 and not has(ones, near) and is_spread(layout, place, part[2], ones)
    if ones != records_at(layout, table, near, 2) or others != records_at(layout, table, place, 1):
        return False
    return ones & others == 0


# Whether ones has each row that the name may come to behind the row; it may have more than these.
def is_spread(layout, place, name, ones):
    # A number that is no set of rows of the program tells of none.
    if ones < 0 or ones >> len(layout.program) != 0:
        return False
    needed = set_of(next_rows(layout, place))
    for one in members(ones):
        if name not in makes(layout.program[one]):
            needed |= set_of(next_rows(layout, one))
    return needed & ~ones == 0
