"""Plays that several tests hand in."""

CAT = (
    "cat", (1, 2, 0), (("score", 5), ("top", 1000000)), (("bag", (4, 5, 6)),),
    (("hop", "open", ("far",), (("move", ("name", "far")),)),),
    ((("flag",), (("do", "hop", (1,)),)),),
)
DOG = ("dog", (3, 0, 1), (), (), (), ())
OWL = ("owl", (1, 2, 3), (("score", -7),), (("bag", ()), ("hoard", (1, 2, 3, 4, 5, 6, 7, 8))), (), ())
PLAY = (
    (5, 4),
    (("score", 100), ("speed", 2)),
    (("bag", (9,)), ("shelf", (-1, 0, 1))),
    (CAT, DOG, OWL),
)


def as_lists(thing):
    """The same with a list for each tuple."""
    return [as_lists(part) for part in thing] if isinstance(thing, tuple) else thing


def as_tuples(thing):
    """The same with a tuple for each list and tuple."""
    return tuple(as_tuples(part) for part in thing) if isinstance(thing, (list, tuple)) else thing


def lists_within(thing):
    """Each list in it, itself too, as often as it stands there."""
    if not isinstance(thing, (list, tuple)):
        return []
    found = [thing] if isinstance(thing, list) else []
    for part in thing:
        found.extend(lists_within(part))
    return found


def change_all_lists(thing):
    """Makes each list in it another one."""
    for row in lists_within(thing):
        row.append("changed")


def figure(name, *scripts, spot=(0, 0, 0), names=(), lists=(), pieces=()):
    return (name, spot, names, lists, pieces, scripts)


def play_of(*figures, size=(5, 4), names=(), lists=()):
    return (size, names, lists, figures)


def script(hat, *deeds):
    """A script of a hat, given by its words parted by a blank."""
    return (tuple(hat.split()), deeds)


def places_in(thing, place=()):
    """Each place in it, as the row of the places that lead there, its own, the bare one, first."""
    found = [place]
    if isinstance(thing, (list, tuple)):
        for at, part in enumerate(thing):
            found.extend(places_in(part, (*place, at)))
    return found


def part_at(thing, place):
    for at in place:
        thing = thing[at]
    return thing


def with_part(thing, place, part):
    """The same with another part at that place; tuples and lists stay what they are."""
    if not place:
        return part
    at = place[0]
    parts = [*thing[:at], with_part(thing[at], place[1:], part), *thing[at + 1:]]
    return parts if isinstance(thing, list) else tuple(parts)


# A block with each deed, and all that looks and tests have.
ALL_DEEDS = (
    ("if", ("both", ("like", ("name", "gold"), 1), ("not", ("meets", "hen"))),
     (("move", ("plus", 1, ("x",))), ("turn", ("minus", 2, ("y",))), ("place", ("by", 1, 2), ("over", 3, ("way",))),
      ("show",), ("hide",), ("say", ("rest", 5, ("number",))), ("set", "gold", 1), ("add", "all", -1)),
     (("put", "sack", 1), ("drop", "sack", 0), ("write", "heap", ("many", "heap"), ("item", "sack", 0)))),
    ("times", 3, (("wait", 1), ("until", ("any", ("below", 1, 2), ("meets", "fox"))))),
    ("while", ("like", 1, 2), (("do", "dig", (1, ("name", "gold"))), ("do", "nap", ()))),
    ("ever", (("tell", "dawn"), ("await", "dusk"))),
    ("copy", "fox"),
    ("copy", None),
    ("end",),
    ("stop", "others"),
)
FOX = (
    "fox", (4, 3, 3), (("gold", 1), ("fur", 0)), (("sack", (1, 2)),),
    (("dig", "closed", ("deep", "wide"), (("say", ("name", "deep")), ("move", ("name", "wide")), ("stop", "run"))),
     ("nap", "open", (), (("wait", 2), ("stop", "all")))),
    ((("flag",), ALL_DEEDS), (("key", "up"), ()), (("news", "dawn"), (("say", 1),)), (("touch",), ()),
     (("born",), (("move", 1),))),
)
HEN = figure("hen")
RICH = ((5, 4), (("all", 7),), (("heap", (3,)),), (FOX, HEN))
# Things of many kinds that are no block, no play, no log and no part of one.
NO_PART = [
    None, True, False, 0, 1, -1, "", "a", "flag", "turn", "stop", (None,), (True,), (0,), ("",), ("a",), ((),), ([],),
    [None], [0], ["a"], [[]], ((("a",),),), (("move",),), (("move", 1, 1),), (("move", True),), (["move", 1],),
    ((("move", 1),),), (("wend", 1, 1),), ((1, 2), (), (), ()), ("", "", "", ""), ((), (), (), ()), ([], [], [], []),
]
