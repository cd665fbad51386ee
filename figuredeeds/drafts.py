"""Drafts: a play that grows by the lines of its text, each where its sort can stand."""

from figuredeeds.plays import DEEDS

# Where in a text it is, and, for each line that can stand there, where it is behind that.
ORDER = {
    ("begin", "ground"): "names",
    ("names", "name"): "names",
    ("names", "list"): "lists",
    ("names", "figure"): "own names",
    ("lists", "list"): "lists",
    ("lists", "figure"): "own names",
    ("own names", "name"): "own names",
    ("own names", "list"): "own lists",
    ("own names", "piece"): "pieces",
    ("own names", "script"): "scripts",
    ("own names", "figure"): "own names",
    ("own lists", "list"): "own lists",
    ("own lists", "piece"): "pieces",
    ("own lists", "script"): "scripts",
    ("own lists", "figure"): "own names",
    ("pieces", "piece"): "pieces",
    ("pieces", "script"): "scripts",
    ("pieces", "figure"): "own names",
    ("scripts", "script"): "scripts",
    ("scripts", "figure"): "own names",
}


def has_blocks(word):
    return "block" in DEEDS[word]


def with_tuples(rows):
    """Pieces or scripts, each with a tuple for its block, which stands last."""
    return tuple([(*row[:-1], tuple(row[-1])) for row in rows])


class Head:
    """A deed with blocks whose done is still to come."""

    def __init__(self, entry):
        self.entry = entry
        self.blocks = [[]]

    def can_have_else(self):
        return self.entry[0] == "if" and len(self.blocks) == 1

    def whole_deed(self):
        blocks = [tuple(block) for block in self.blocks]
        if self.can_have_else():
            blocks.append(())
        return (*self.entry, *blocks)


class Draft:
    """What the lines till now come to.

    Deeds within an open block wait in its head: one becomes whole at its done, without going into it again, so
    that a text may have blocks deeper than a play can.
    """

    def __init__(self):
        self.place = "begin"
        self.size = ()
        self.common = ([], [])
        # Whose names and lists come now: first those of all, then the last figure's.
        self.holder = self.common
        self.cast = []
        # The last piece's or script's own block, None where there is none to which a deed could belong.
        self.block = None
        self.heads = []

    def can_take(self, entry):
        """Whether a line that has this can stand here."""
        word = entry[0]
        if word == "done":
            return self.is_within()
        if word == "else":
            return self.is_within() and self.heads[-1].can_have_else()
        if word in DEEDS:
            return self.block is not None
        return not self.is_within() and (self.place, word) in ORDER

    def is_within(self):
        """Whether a done is wanting."""
        return len(self.heads) > 0

    def grow(self, entry):
        """Takes what a line has that can stand here."""
        word = entry[0]
        if word == "else":
            self.heads[-1].blocks.append([])
        elif word == "done":
            head = self.heads.pop()
            self.inner_block().append(head.whole_deed())
        elif word not in DEEDS:
            self.place = ORDER[self.place, word]
            self.grow_outside(word, entry[1:])
        elif has_blocks(word):
            self.heads.append(Head(entry))
        else:
            self.inner_block().append(entry)

    def inner_block(self):
        """The block to which the next deed belongs."""
        return self.heads[-1].blocks[-1] if self.is_within() else self.block

    def grow_outside(self, word, parts):
        """Takes what a line has that isn't a block's."""
        if word == "ground":
            self.size = parts
        elif word == "name":
            self.holder[0].append(parts)
        elif word == "list":
            self.holder[1].append(parts)
        elif word == "figure":
            self.begin_figure(parts)
        else:
            self.begin_block(word, parts)

    def begin_figure(self, parts):
        figure = (parts[0], parts[1:], [], [], [], [])
        self.cast.append(figure)
        self.holder = figure[2:4]
        self.block = None

    def begin_block(self, word, parts):
        self.block = []
        pieces, scripts = self.cast[-1][4:]
        rows = pieces if word == "piece" else scripts
        rows.append((*parts, self.block))

    def whole(self):
        """All of it as a play has it, be it one or not."""
        figures = [
            (name, spot, tuple(names), tuple(lists), with_tuples(pieces), with_tuples(scripts))
            for name, spot, names, lists, pieces, scripts in self.cast
        ]
        return (self.size, tuple(self.common[0]), tuple(self.common[1]), tuple(figures))
