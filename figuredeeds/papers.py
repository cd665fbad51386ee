"""Papers: lists that show that two plays are seen alike behind all rows of happenings."""

from figuredeeds.parting import MOST_PAIRS, Walk, gone_through, is_row_of
from figuredeeds.plays import is_from_to, is_row
from figuredeeds.tuples import tupled

LONGEST_PAPER = 100


def alike_paper(play, other, happenings, *, most=MOST_PAIRS):
    """A list of pairs (row, places) that shows that the plays are alike, None where they are parted."""
    row, paper = gone_through(play, other, happenings, most)
    return paper if row is None else None


def is_paper(thing, happenings):
    """Whether it is a list of pairs (row, places), the first row bare, whatever these rows come to."""
    if not isinstance(thing, list) or not 1 <= len(thing) <= LONGEST_PAPER:
        return False
    if not all([is_row(pair, 2, 2) and is_row_of(pair[0], happenings) for pair in thing]):
        return False
    return thing[0][0] == [] and all([are_places(pair[1], len(happenings), len(thing)) for pair in thing])


def are_places(thing, wanted, many):
    """Whether it is a tuple of as many places as wanted, in a list of so many."""
    return is_row(thing, wanted, wanted) and all([is_from_to(place, 0, many - 1) for place in thing])


def shows_alike(play, other, happenings, thing):
    """Whether it is a list that shows that the plays are seen alike behind all rows."""
    if not is_paper(thing, happenings):
        return False
    walk = Walk(play, other)
    rows = [tuple(row) for row, places in thing]
    if any([walk.parts_within(row) for row in rows]):
        return False
    pairs = [walk.states(row) for row in rows]
    for row, places in thing:
        for step, place in zip(tupled(happenings), places):
            longer = (*row, step)
            if walk.parts(longer) or walk.states(longer) != pairs[place]:
                return False
    return True
