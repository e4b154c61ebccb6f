"""The fewest parts that still bring about what is wanted: of any list, of rows, of inputs."""

from slicewise.bits import set_of
from slicewise.copies import copied
from slicewise.errors import NoFault
from slicewise.layouts import Layout
from slicewise.only import only
from slicewise.rows import SILENT
from slicewise.runs import run


def fewest(parts, ending, wanted):
    whole = copied(parts)
    left = list(range(len(whole)))
    if not is_wanted(wanted, came_of_parts(whole, left, ending)):
        raise NoFault("all parts together don't bring about what is wanted")
    tries = []
    before = None
    while before != left:
        before = left
        left = left_of_round(whole, left, ending, wanted, tries)
    return ([whole[number] for number in left], tries)


# The functions get copies, and what they tell is copied: whatever they do to these lists, neither
# the parts nor the tries are changed by it.
def came_of_parts(whole, numbers, ending):
    return copied(ending(copied([whole[number] for number in numbers])))


def is_wanted(wanted, came):
    return bool(wanted(copied(came)))


# One round: tells the numbers that are left behind it, and adds its tries.
def left_of_round(whole, left, ending, wanted, tries):
    told = left
    for number in reversed(left):
        others = [other for other in told if other != number]
        came = came_of_parts(whole, others, ending)
        out = is_wanted(wanted, came)
        tries.append((number, came, out))
        if out:
            told = others
    return told


def fewest_rows(program, inputs, word, most=200):
    layout = Layout(program)
    rows = [place for place in range(len(program)) if may_be_left_out(layout, place)]
    frame = set_of([place for place, row in enumerate(program) if row[0] in ("def", "give")])
    found = fewest(
        rows,
        lambda some: run(only(program, set_of(some) | frame), inputs, most)[1],
        lambda end: end == ("fault", word))
    return (set_of(found[0]), renumbered(found[1], rows))


def may_be_left_out(layout, place):
    word = layout.program[place][0]
    return layout.homes[place] is not None and word not in SILENT and word not in ("def", "give")


def fewest_inputs(program, inputs, word, most=200):
    places = [place for place, number in enumerate(inputs) if number != 0]
    found = fewest(
        places,
        lambda some: run(program, with_noughts(inputs, some), most)[1],
        lambda end: end == ("fault", word))
    return (with_noughts(inputs, found[0]), renumbered(found[1], places))


def with_noughts(inputs, places):
    return [number if place in places else 0 for place, number in enumerate(inputs)]


# fewest numbers its parts from 0; these are told by their own numbers.
def renumbered(tries, parts):
    return [(parts[number], came, out) for number, came, out in tries]
