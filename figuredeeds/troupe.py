"""The troupe: all ones of a play with their runs, and how runs begin and are over."""

from figuredeeds.errors import Fell
from figuredeeds.ground import Ground
from figuredeeds.records import Records


class Run:
    """A one's script at work: what is left of it, the pieces in which it is, and whom it waits for.

    Its mark is no other run's, so that a script that is begun anew isn't taken for the run that it was.
    """

    def __init__(self, mark, one, script, left):
        self.mark = mark
        self.one = one
        self.script = script
        self.left = left
        self.frames = ()
        self.awaited = ()

    def again(self):
        """One of its own that is the same."""
        other = Run(self.mark, self.one, self.script, self.left)
        other.frames = self.frames
        other.awaited = self.awaited
        return other

    def params(self):
        """The pairs of the piece in which it is."""
        return self.frames[-1][1] if self.frames else ()


class Troupe:
    """The ones of a play, their runs by their marks, in the order in which they were begun, and the records."""

    def __init__(self, play, copies):
        self.play = play
        self.copies = copies
        self.ground = Ground(play)
        self.pieces = {figure[0]: figure[4] for figure in play[3]}
        self.scripts = {figure[0]: figure[5] for figure in play[3]}
        self.standing = {}
        self.begun = 0
        self.records = Records()

    def twin(self):
        """One of its own that is the same."""
        other = Troupe(self.play, self.copies)
        other.ground = self.ground.twin()
        other.standing = {mark: self.standing[mark].again() for mark in self.standing}
        other.begun = self.begun
        other.records = self.records.again()
        return other

    def begin(self, one, script):
        """A run of the one's script at that place begins behind all others; its mark is told."""
        mark = self.begun
        self.begun += 1
        self.standing[mark] = Run(mark, one, script, self.scripts[one[0]][script][1])
        return mark

    def is_standing(self, mark):
        return mark in self.standing

    def runs_of(self, one):
        return [run for run in self.standing.values() if run.one == one]

    def finish(self, runs):
        """These are over, where they aren't yet."""
        for run in runs:
            if run.mark in self.standing:
                del self.standing[run.mark]

    def places_of(self, one, hat):
        """Where among its figure's scripts those of that hat stand."""
        return [place for place, script in enumerate(self.scripts[one[0]]) if script[0] == hat]

    def begin_new(self, one, hat):
        """Begins its scripts of that hat, whatever runs there are; their marks are told."""
        return [self.begin(one, place) for place in self.places_of(one, hat)]

    def begin_idle(self, one, hat):
        """Begins its scripts of that hat of which no run is there."""
        busy = [run.script for run in self.runs_of(one)]
        for place in self.places_of(one, hat):
            if place not in busy:
                self.begin(one, place)

    def tell(self, name):
        """Tells news: all scripts of it begin anew; the marks of their runs are told."""
        hat = ("news", name)
        marks = []
        for one in self.ground.ones():
            places = self.places_of(one, hat)
            self.finish([run for run in self.runs_of(one) if run.script in places])
            marks.extend(self.begin_new(one, hat))
        return marks

    def clear_all(self):
        """All runs are over, and all copies gone."""
        self.standing = {}
        for one in self.ground.ones():
            if one[1] > 0:
                self.send_off(one)

    def raise_flag(self):
        self.clear_all()
        for one in self.ground.ones():
            self.begin_new(one, ("flag",))

    def add_copy(self, one):
        """A copy of this one comes, and its scripts of being born begin."""
        if len(self.ground) - len(self.scripts) >= self.copies:
            raise Fell("full")
        new = self.ground.copy(one)
        self.records.note(new, "came", None)
        self.begin_new(new, ("born",))

    def send_off(self, one):
        """A copy is gone, and all its runs are over."""
        self.finish(self.runs_of(one))
        self.ground.end(one)
        self.records.note(one, "went", None)
