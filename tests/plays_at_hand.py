"""Plays that several tests hand in."""

CAT = (
    "cat", (1, 2, 0), (("score", 5), ("top", 1000000)), (("bag", (4, 5, 6)),),
    (("hop", "open", ("far",), (("move", ("name", "far")),)),),
    ((("flag",), (("do", "hop", (1,)),)),),
)
DOG = ("dog", (3, 0, 1), (), (), (), ())
OWL = ("owl", (1, 2, 3), (("score", -7),), (("bag", ()), ("hoard", (1, 2, 3, 4, 5, 6, 7, 8))), (), ())
PLAY = (
    (5, 4),
    (("score", 100), ("speed", 2)),
    (("bag", (9,)), ("shelf", (-1, 0, 1))),
    (CAT, DOG, OWL),
)


def as_lists(thing):
    """The same with a list for each tuple."""
    return [as_lists(part) for part in thing] if isinstance(thing, tuple) else thing


def as_tuples(thing):
    """The same with a tuple for each list and tuple."""
    return tuple(as_tuples(part) for part in thing) if isinstance(thing, (list, tuple)) else thing


def lists_within(thing):
    """Each list in it, itself too, as often as it stands there."""
    if not isinstance(thing, (list, tuple)):
        return []
    found = [thing] if isinstance(thing, list) else []
    for part in thing:
        found.extend(lists_within(part))
    return found


def change_all_lists(thing):
    """Makes each list in it another one."""
    for row in lists_within(thing):
        row.append("changed")
