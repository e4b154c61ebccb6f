"""Which rows a change of a program may reach."""

from slicewise.bits import set_of
from slicewise.errors import Unlike
from slicewise.layouts import Layout
from slicewise.net import net_of
from slicewise.rows import SILENT
from slicewise.slices import forth


def changed(old, new):
    if len(old) != len(new):
        raise Unlike("the two makes have not as many rows")
    one = Layout(old)
    other = Layout(new)
    told = set_of([place for place in range(len(old)) if is_changed(one, other, place)])
    if one.main != other.main:
        told |= set_of([main for main in (one.main, other.main) if main is not None])
    return told


def is_changed(one, other, place):
    if one.program[place][0] in SILENT and other.program[place][0] in SILENT:
        return False
    return lie_of(one, place) != lie_of(other, place)


def lie_of(layout, place):
    return (layout.program[place], layout.heads[place], layout.ends[place], layout.elses[place])


def reach(old, new, strict=False):
    rows = changed(old, new)
    both = [one | other for one, other in zip(net_of(old, strict), net_of(new, strict))]
    return forth(both, rows)
