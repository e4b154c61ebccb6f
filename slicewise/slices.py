"""Slices: what some rows lean on, what leans on them, and ways between rows."""

from slicewise.bits import members
from slicewise.net import net_of


def back(net, rows):
    told = rows
    waiting = members(rows)
    while len(waiting) > 0:
        fresh = net[waiting.pop()] & ~told
        told |= fresh
        waiting.extend(members(fresh))
    return told


def forth(net, rows):
    return back(turned(net), rows)


# The net in which each tie goes the other way.
def turned(net):
    told = [0] * len(net)
    for row, others in enumerate(net):
        for other in members(others):
            told[other] |= 1 << row
    return told


def between(net, ones, others):
    return forth(net, ones) & back(net, others)


def way(net, row, other):
    origins = {row: None}
    layer = [row]
    while len(layer) > 0 and other not in origins:
        layer = next_layer(net, origins, layer)
    if other not in origins:
        return None
    path = [other]
    while path[-1] != row:
        path.append(origins[path[-1]])
    return list(reversed(path))


# origins has, for each row that was come to, the one that it was come to from.
def next_layer(net, origins, layer):
    told = []
    for row in layer:
        for other in members(net[row]):
            if other not in origins:
                origins[other] = row
                told.append(other)
    return told


def slice_of(program, rows, strict=False):
    return back(net_of(program, strict), rows)
