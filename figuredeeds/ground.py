"""The ground: where the ones of all figures stand, what they hold, and the deeds that change it."""

from figuredeeds.errors import Fell
from figuredeeds.holdings import LIST_DEEDS, NAME_DEEDS, Holding
from figuredeeds.looks import value_of

# How x and y grow by one spot, for each way.
STEPS = ((1, 0), (0, 1), (-1, 0), (0, -1))


def moved(spot, values):
    x, y, way = spot
    by_x, by_y = STEPS[way]
    return (x + by_x * values[0], y + by_y * values[0], way)


def turned(spot, values):
    x, y, way = spot
    return (x, y, (way + values[0]) % len(STEPS))


def placed(spot, values):
    return (values[0], values[1], spot[2])


SPOT_DEEDS = {"move": moved, "turn": turned, "place": placed}
SHOWN_BY = {"show": True, "hide": False}


def nearest(place, many):
    """Of so many places, from 0 on, the one nearest to that."""
    return max(0, min(place, many - 1))


class Ground:
    """Figures and their copies, each a one, a pair (figure, number), on a ground of spots.

    What belongs to all is held under None, what is a one's own under that one.
    """

    def __init__(self, play):
        size, names, lists, figures = play
        self.wide, self.high = size
        self.figures = [figure[0] for figure in figures]
        self.places = {(figure[0], 0): tuple(figure[1]) for figure in figures}
        self.shown = {(figure[0], 0): True for figure in figures}
        self.held = {(figure[0], 0): Holding(figure[2], figure[3]) for figure in figures}
        self.held[None] = Holding(names, lists)

    def __len__(self):
        return len(self.places)

    def __eq__(self, other):
        return isinstance(other, Ground) and self.told() == other.told()

    def told(self):
        """All by which two grounds are compared; met and eyes follow from it."""
        ones = self.ones()
        stands = [(self.places[one], self.shown[one]) for one in ones]
        holders = [None, *ones]
        names = [self.names(one=one) for one in holders]
        lists = [self.lists(one=one) for one in holders]
        return (self.wide, self.high, ones, stands, names, lists)

    def twin(self):
        """A ground of its own that is the same."""
        other = Ground(((self.wide, self.high), (), (), ()))
        other.figures = list(self.figures)
        for one in self.ones():
            self.give(one, other, one)
        other.held[None] = self.held[None].again()
        return other

    def give(self, one, ground, new):
        """Lets a new one stand on that ground, which is as this one is here."""
        ground.places[new] = self.places[one]
        ground.shown[new] = self.shown[one]
        ground.held[new] = self.held[one].again()

    def ones(self):
        """All ones: figures in the play's order, numbers rising."""
        ranks = {figure: rank for rank, figure in enumerate(self.figures)}
        return sorted(list(self.places), key=lambda one: (ranks[one[0]], one[1]))

    def spot(self, one):
        """Where it stands: (x, y, way)."""
        return self.places[tuple(one)]

    def is_shown(self, one):
        return self.shown[tuple(one)]

    def names(self, *, one=None):
        """The pairs (NAME, value) of a one's own names, of None those of all."""
        return self.held_by(one).name_pairs()

    def lists(self, *, one=None):
        """The pairs (NAME, list of values) of a one's own lists, of None those of all."""
        return self.held_by(one).list_pairs()

    def held_by(self, one):
        return self.held[None if one is None else tuple(one)]

    def met(self, one):
        """The figures of which another one that is shown stands where this one does."""
        here = tuple(one)
        if not self.shown[here]:
            return []
        others = [other for other in self.places if other != here and self.shown[other]]
        met = [other[0] for other in others if self.places[other][:2] == self.places[here][:2]]
        return [figure for figure in self.figures if figure in met]

    def eyes(self, one, *, params=()):
        """The eyes by which its looks read, params ahead of its own names, these ahead of those of all."""
        names = [(name, value) for name, value in params]
        names.extend(self.names(one=one) + self.names())
        lists = self.lists(one=one) + self.lists()
        x, y, way = self.spot(one)
        return (names, lists, (x, y, way, one[1]), self.met(one))

    def copy(self, one):
        """A new one of the same figure, as this one is now; it is told."""
        figure = one[0]
        number = 1
        while (figure, number) in self.places:
            number += 1
        self.give(tuple(one), self, (figure, number))
        return (figure, number)

    def end(self, one):
        """A copy is gone, and all that it held."""
        gone = tuple(one)
        del self.places[gone]
        del self.shown[gone]
        del self.held[gone]

    def do(self, one, deed, *, params=()):
        """Does one deed of this one; of say the value is told."""
        word = deed[0]
        named = word in NAME_DEEDS or word in LIST_DEEDS
        looks = deed[2:] if named else deed[1:]
        eyes = self.eyes(one, params=params)
        # All looks come ahead of all else, so that a deed that is refused has changed nothing.
        values = [value_of(look, eyes) for look in looks]
        if word == "say":
            return values[0]
        if named:
            self.change_held(tuple(one), word, deed[1], values)
        elif word in SHOWN_BY:
            self.shown[tuple(one)] = SHOWN_BY[word]
        else:
            self.change_spot(tuple(one), word, values)
        return None

    def change_spot(self, one, word, values):
        action = SPOT_DEEDS[word]
        x, y, way = action(self.places[one], values)
        self.places[one] = (nearest(x, self.wide), nearest(y, self.high), way)

    def change_held(self, one, word, name, values):
        if word in NAME_DEEDS:
            action = NAME_DEEDS[word]
            action(self.numbers_with(one, name), name, values[0])
        else:
            action = LIST_DEEDS[word]
            action(self.row_of(one, name), values)

    def numbers_with(self, one, name):
        """The names among which this one is: its own, where these have none, those of all."""
        for holding in (self.held[one], self.held[None]):
            if name in holding.numbers:
                return holding.numbers
        raise Fell("none")

    def row_of(self, one, name):
        """The list of that name: its own, where it has none, that of all."""
        for holding in (self.held[one], self.held[None]):
            if name in holding.rows:
                return holding.rows[name]
        raise Fell("none")
