"""Tuples for lists, so that what is handed in may have either."""


def tupled(thing):
    """The same with a tuple for each list in it."""
    if isinstance(thing, (list, tuple)):
        return tuple([tupled(part) for part in thing])
    return thing
