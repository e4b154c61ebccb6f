"""Copies of values, with the lists in them, that nobody else can change."""


def copied(thing):
    if isinstance(thing, list):
        return [copied(part) for part in thing]
    if isinstance(thing, tuple):
        return tuple([copied(part) for part in thing])
    if isinstance(thing, dict):
        return dict([(key, copied(part)) for key, part in thing.items()])
    return thing
