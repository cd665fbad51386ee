"""Parting: the first row of happenings behind which two plays aren't seen alike."""

from figuredeeds.errors import TooMany
from figuredeeds.replays import happen, is_happening
from figuredeeds.stage import Stage
from figuredeeds.tuples import tupled

MOST_PAIRS = 60
TURN = ("turn",)


class Walk:
    """Two plays' stages, led alike along rows, which are tuples here; what a row comes to is kept."""

    def __init__(self, play, other):
        self.known = {(): (Stage(tupled(play)), Stage(tupled(other)))}

    def stages(self, row):
        """Both stages behind the row."""
        many = len(row)
        while row[:many] not in self.known:
            many -= 1
        for at in range(many, len(row)):
            self.known[row[:at + 1]] = led(self.known[row[:at]], row[at])
        return self.known[row]

    def states(self, row):
        """The pair of both states behind the row."""
        first, second = self.stages(row)
        return (first.state(), second.state())

    def parts(self, row):
        """Whether they aren't seen alike behind the row's last turn."""
        first, second = self.stages(row)
        return first.seen() != second.seen()

    def parts_within(self, row):
        """Whether they aren't seen alike behind the row, whichever of its turns it is that parts them."""
        for many in range(1, len(row) + 1):
            if self.parts(row[:many]):
                return True
        return False


def led(stages, happening):
    """Stages of their own with which that happened, and a turn."""
    twins = (stages[0].twin(), stages[1].twin())
    for stage in twins:
        happen(stage, happening)
        if happening != TURN:
            stage.turn()
    return twins


def gone_through(play, other, happenings, most):
    """The first row that parts them, None where there is none, and the pairs (row, places) till then.

    Each row there is the first one that comes to its pair of states, and its places are where those pairs
    stand to which each of the happenings leads from it.
    """
    walk = Walk(play, other)
    steps = tupled(happenings)
    rows = [()]
    # Too deep to be keys: rests have blocks in blocks.
    pairs = [walk.states(())]
    paper = []
    while len(paper) < len(rows):
        row = rows[len(paper)]
        places = []
        for step in steps:
            longer = (*row, step)
            if walk.parts(longer):
                return (longer, paper)
            pair = walk.states(longer)
            if pair not in pairs:
                if len(pairs) >= most:
                    raise TooMany(most)
                rows.append(longer)
                pairs.append(pair)
            places.append(pairs.index(pair))
        paper.append((list(row), tuple(places)))
    return (None, paper)


def parted(play, other, happenings, *, most=MOST_PAIRS):
    """The first row behind which the plays aren't seen alike, None where there is none."""
    row, paper = gone_through(play, other, happenings, most)
    return None if row is None else list(row)


def is_row_of(thing, happenings):
    """Whether it is a list of some of these happenings."""
    if not isinstance(thing, list):
        return False
    steps = tupled(happenings)
    # To Python False is 0, so that being among them isn't enough.
    return all([is_happening(part) and part in steps for part in thing])


def shows_parted(play, other, happenings, thing):
    """Whether it is a row behind which the plays aren't seen alike."""
    return is_row_of(thing, happenings) and Walk(play, other).parts_within(tuple(thing))
