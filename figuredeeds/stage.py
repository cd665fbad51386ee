"""A stage: a play that is played, kept over many calls, with its log and its tale."""

from figuredeeds.errors import BadPlay, NoOne, NotOpen, Open
from figuredeeds.goes import go
from figuredeeds.plays import is_play
from figuredeeds.troupe import Troupe
from figuredeeds.tuples import tupled

MOST_ITEMS = 100
MOST_COPIES = 6
LEAST_PLAY = ((1, 1), (), (), (("one", (0, 0, 0), (), (), (), ()),))


class Stage:
    """A play with all its ones and runs; what happens to it begins runs, and in turns these have their goes.

    While a turn is open, due has the marks of the runs whose go is still to come; else it is None.
    """

    def __init__(self, play, *, most=MOST_ITEMS, copies=MOST_COPIES):
        if not is_play(play):
            raise BadPlay(play)
        self.play = play
        self.most = most
        self.copies = copies
        self.troupe = Troupe(play, copies)
        self.due = None

    def __len__(self):
        return len(self.troupe.records.ends)

    def __eq__(self, other):
        return isinstance(other, Stage) and self.compared() == other.compared()

    def compared(self):
        """All by which two stages are compared."""
        return (self.play, self.most, self.copies, self.state())

    def twin(self):
        """A stage of its own that tells the same, with an open turn too."""
        # Its own play was looked through already, which takes long.
        other = Stage(LEAST_PLAY, most=self.most, copies=self.copies)
        other.play = self.play
        other.troupe = self.troupe.twin()
        other.due = None if self.due is None else list(self.due)
        return other

    def flag(self):
        """All begins from the scripts of the flag."""
        self.refuse_open()
        self.troupe.raise_flag()
        self.troupe.records.note_happened(("flag",))

    def key(self, name):
        """Begins all scripts of that key of which no run is there."""
        self.refuse_open()
        for one in self.ones():
            self.troupe.begin_idle(one, ("key", name))
        self.troupe.records.note_happened(("key", name))

    def touch(self, figure, *, number=0):
        """Begins that one's scripts of a touch of which no run is there."""
        self.refuse_open()
        self.troupe.begin_idle(self.one_there(figure, number), ("touch",))
        self.troupe.records.note_happened(("touch", figure, number))

    def news(self, name):
        """Tells news, for which nobody waits."""
        self.refuse_open()
        self.troupe.tell(name)
        self.troupe.records.note_happened(("news", name))

    def turn(self):
        """A whole turn; told is how many goes there were."""
        self.start()
        return self.rest()

    def start(self):
        """A turn is open, for all runs that are there now."""
        self.refuse_open()
        self.due = list(self.troupe.standing)
        self.troupe.records.begin_turn()

    def step(self):
        """The next go of the open turn; told is whose, None where none was left and the turn is over."""
        self.refuse_not_open()
        while self.due:
            mark = self.due.pop(0)
            if self.troupe.is_standing(mark):
                run = self.troupe.standing[mark]
                go(self.troupe, run, self.most)
                return (*run.one, run.script)
        self.due = None
        self.troupe.records.end_turn()
        return None

    def rest(self):
        """All goes that are left of the open turn; told is how many, and the turn is over."""
        many = 0
        while self.step() is not None:
            many += 1
        return many

    def is_open(self):
        return self.due is not None

    def refuse_open(self):
        if self.is_open():
            raise Open()

    def refuse_not_open(self):
        if not self.is_open():
            raise NotOpen()

    def one_there(self, figure, number):
        """The one, where it is there."""
        if (figure, number) not in self.ones():
            raise NoOne(figure, number)
        return (figure, number)

    def one_asked(self, figure, number):
        """The one whose names or lists are asked for, None for those of all."""
        return None if figure is None else self.one_there(figure, number)

    def ones(self):
        """All ones: figures in the play's order, numbers rising."""
        return self.troupe.ground.ones()

    def spot(self, figure, *, number=0):
        """Where the one stands: (x, y, way)."""
        return self.troupe.ground.spot(self.one_there(figure, number))

    def is_shown(self, figure, *, number=0):
        return self.troupe.ground.is_shown(self.one_there(figure, number))

    def names(self, *, figure=None, number=0):
        """The pairs (NAME, value) of the one's own names, of None those of all."""
        return self.troupe.ground.names(one=self.one_asked(figure, number))

    def lists(self, *, figure=None, number=0):
        """The pairs (NAME, list of values) of the one's own lists, of None those of all."""
        return self.troupe.ground.lists(one=self.one_asked(figure, number))

    def runs(self):
        """All runs in order: (figure, number, script, rest, frames, places of the runs that it awaits)."""
        marks = list(self.troupe.standing)
        told = []
        for run in self.troupe.standing.values():
            awaited = tuple([place for place, mark in enumerate(marks) if mark in run.awaited])
            told.append((*run.one, run.script, run.left, run.frames, awaited))
        return told

    def state(self):
        """What is of all, all ones and all runs, in tuples throughout."""
        ones = [self.one_told(figure, number) for figure, number in self.ones()]
        return tupled((self.names(), self.lists(), ones, self.runs()))

    def one_told(self, figure, number):
        """The one with all that is its own."""
        one = (figure, number)
        ground = self.troupe.ground
        return (*one, ground.spot(one), ground.is_shown(one), ground.names(one=one), ground.lists(one=one))

    def seen(self):
        """Who is shown, and where; what was said in the last turn, or in the open one till now."""
        ground = self.troupe.ground
        shown = [(one[0], *ground.spot(one)) for one in self.ones() if ground.is_shown(one)]
        return (tuple(shown), tuple(self.troupe.records.said))

    def tale(self, *, first=0):
        """What came of all goes and happenings, from that entry on."""
        return self.troupe.records.entries[max(0, first):]

    def log(self, *, first=0):
        """What happened, from that entry on."""
        return self.troupe.records.happened[max(0, first):]
