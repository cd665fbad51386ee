"""Plays: what a block and a play are, and whether all that a play's blocks name is there."""

from figuredeeds.looks import is_look, is_name, is_number, is_test, is_value, is_worded, names_in

MOST_DEEDS = 8
DEEPEST_BLOCK = 4
MOST_PARAMS = 2
WIDEST = 20
MOST_NAMES = 4
MOST_LISTS = 2
MOST_VALUES = 8
MOST_FIGURES = 4
MOST_PIECES = 3
MOST_SCRIPTS = 6
WAYS = 4
STOP_WORDS = ("run", "others", "all")
PIECE_KINDS = ("open", "closed")
PLAIN_HATS = ("flag", "touch", "born")
NAMED_HATS = ("key", "news")

# The kinds of the parts behind each deed's word; "own" is a name that isn't a param.
DEEDS = {
    "move": ("look",),
    "turn": ("look",),
    "place": ("look", "look"),
    "show": (),
    "hide": (),
    "say": ("look",),
    "set": ("own", "look"),
    "add": ("own", "look"),
    "put": ("list", "look"),
    "drop": ("list", "look"),
    "write": ("list", "look", "look"),
    "wait": ("look",),
    "until": ("test",),
    "if": ("test", "block", "block"),
    "times": ("look", "block"),
    "while": ("test", "block"),
    "ever": ("block",),
    "do": ("piece", "looks"),
    "tell": ("news",),
    "await": ("news",),
    "copy": ("figure",),
    "end": (),
    "stop": ("word",),
}


def is_row(thing, least, most):
    """Whether it is a tuple of at least and at most so many parts."""
    return isinstance(thing, tuple) and least <= len(thing) <= most


def is_from_to(thing, least, most):
    """Whether it is a number within these bounds, both of them too."""
    return is_number(thing) and least <= thing <= most


def are_unlike(names):
    return len(set(names)) == len(names)


def is_block(thing):
    """Whether it is a block, such as a script's or piece's own."""
    return is_inner_block(thing, DEEPEST_BLOCK)


def is_inner_block(thing, deep):
    """Whether it is a block in which blocks are, itself counted, at most so deep."""
    if deep < 1 or not is_row(thing, 0, MOST_DEEDS):
        return False
    return all([is_deed(deed, deep) for deed in thing])


def is_deed(thing, deep):
    """Whether it is a deed of a block that may be so deep."""
    if not is_worded(thing):
        return False
    kinds = DEEDS.get(thing[0])
    if kinds is None or len(thing) != len(kinds) + 1:
        return False
    return all([is_deed_part(part, kind, deep) for part, kind in zip(thing[1:], kinds)])


def is_deed_part(part, kind, deep):
    """Whether it is what stands behind a deed's word, as kind has it."""
    if kind == "look":
        return is_look(part)
    if kind == "test":
        return is_test(part)
    if kind == "block":
        return is_inner_block(part, deep - 1)
    if kind == "looks":
        return is_row(part, 0, MOST_PARAMS) and all([is_look(look) for look in part])
    if kind == "word":
        return part in STOP_WORDS
    if kind == "figure" and part is None:
        return True
    return is_name(part)


def is_play(thing):
    """Whether it is a play, of which all that its blocks name is there."""
    return is_shaped(thing) and all([names_are_there(thing, figure) for figure in thing[3]])


def is_shaped(thing):
    """Whether it is a play but for what its blocks name."""
    if not is_row(thing, 4, 4):
        return False
    size, names, lists, figures = thing
    if not is_size(size) or not is_row(figures, 1, MOST_FIGURES):
        return False
    if not are_names(names) or not are_lists(lists):
        return False
    return all([is_figure(figure, size) for figure in figures]) and are_unlike(firsts(figures))


def is_size(thing):
    return is_row(thing, 2, 2) and all([is_from_to(many, 1, WIDEST) for many in thing])


def are_names(thing):
    return are_pairs(thing, MOST_NAMES) and all([is_value(value) for name, value in thing])


def are_lists(thing):
    return are_pairs(thing, MOST_LISTS) and all([are_values(row) for name, row in thing])


def are_values(thing):
    return is_row(thing, 0, MOST_VALUES) and all([is_value(value) for value in thing])


def are_pairs(thing, most):
    """Whether these are at most so many pairs, each with a NAME first, all unlike."""
    if not is_row(thing, 0, most) or not all([is_row(pair, 2, 2) for pair in thing]):
        return False
    return are_unlike_names(firsts(thing))


def are_unlike_names(names):
    return all([is_name(name) for name in names]) and are_unlike(names)


def firsts(rows):
    """What stands first in each, its NAME in most."""
    return [row[0] for row in rows]


def is_figure(thing, size):
    """Whether it is a figure of a ground of that size, but for what its blocks name."""
    if not is_row(thing, 6, 6):
        return False
    name, spot, names, lists, pieces, scripts = thing
    if not is_name(name) or not is_spot(spot, size) or not are_names(names) or not are_lists(lists):
        return False
    if not is_row(pieces, 0, MOST_PIECES) or not all([is_piece(piece) for piece in pieces]):
        return False
    if not is_row(scripts, 0, MOST_SCRIPTS) or not all([is_script(script) for script in scripts]):
        return False
    return are_unlike(firsts(pieces))


def is_spot(thing, size):
    bounds = (*size, WAYS)
    if not is_row(thing, len(bounds), len(bounds)):
        return False
    return all([is_from_to(place, 0, many - 1) for place, many in zip(thing, bounds)])


def is_piece(thing):
    if not is_row(thing, 4, 4):
        return False
    name, kind, params, block = thing
    if not is_name(name) or kind not in PIECE_KINDS or not is_block(block):
        return False
    return is_row(params, 0, MOST_PARAMS) and are_unlike_names(params)


def is_script(thing):
    return is_row(thing, 2, 2) and is_hat(thing[0]) and is_block(thing[1])


def is_hat(thing):
    if not is_worded(thing):
        return False
    if thing[0] in NAMED_HATS:
        return len(thing) == 2 and is_name(thing[1])
    return thing[0] in PLAIN_HATS and len(thing) == 1


def names_are_there(play, figure):
    """Whether all that the figure's pieces and scripts name is there."""
    there = [
        all_there(block, scope_of(play, figure, params)) for name, kind, params, block in figure[4]
    ]
    scope = scope_of(play, figure, ())
    return all(there) and all([all_there(block, scope) for hat, block in figure[5]])


def scope_of(play, figure, params):
    """What a block of the figure may name, by kind."""
    own = firsts(play[1]) + firsts(figure[2])
    return {
        "name": own + list(params),
        "own": own,
        "list": firsts(play[2]) + firsts(figure[3]),
        "piece": [(piece[0], len(piece[2])) for piece in figure[4]],
        # A copy's None names no figure, and is right everywhere.
        "figure": [*firsts(play[3]), None],
    }


def all_there(block, scope):
    return all([what in scope[kind] for kind, what in named_in(block)])


def named_in(block):
    """The pairs (kind, what) of all that a block names and that must be there."""
    named = []
    for deed in block:
        if deed[0] == "do":
            # A piece is called by as many looks as it has params.
            named.append(("piece", (deed[1], len(deed[2]))))
        for part, kind in zip(deed[1:], DEEDS[deed[0]]):
            named.extend(named_by(part, kind))
    return named


def named_by(part, kind):
    """The pairs (kind, what) of all that one part of a deed names, its piece left out."""
    if kind == "block":
        return named_in(part)
    if kind == "looks":
        return [pair for look in part for pair in names_in(look, "look")]
    if kind in ("look", "test"):
        return names_in(part, kind)
    return [(kind, part)] if kind in ("own", "list", "figure") else []
