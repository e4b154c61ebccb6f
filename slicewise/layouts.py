"""How a program lies: its shape with names for the parts, its functions, and where a row leads."""

from slicewise.programs import first_defs, shape


class Layout:
    def __init__(self, program):
        parts = shape(program)
        self.program = program
        self.heads = parts[0]
        self.ends = parts[1]
        self.elses = parts[2]
        self.homes = parts[3]
        self.defs = first_defs(program)
        self.main = min(self.defs.values()) if len(self.defs) > 0 else None


def calls_of(layout, function):
    program = layout.program
    return [place for place, row in enumerate(program) if row[0] == "call" and row[2] == function]


def yes_row(place):
    return place + 1


# Without an else an if leads to its end itself, a while to the row behind its end.
def no_row(layout, place):
    if layout.program[place][0] == "while":
        return layout.ends[place] + 1
    if layout.elses[place] is None:
        return layout.ends[place]
    return layout.elses[place] + 1


# Where a row that is no if, while, call or give leads.
def row_behind(layout, place):
    word = layout.program[place][0]
    head = layout.heads[place]
    if word == "else":
        return layout.ends[head]
    if word == "end" and layout.program[head][0] == "while":
        return head
    return place + 1
