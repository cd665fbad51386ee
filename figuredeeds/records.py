"""Records: what happened to a stage, and what came of it."""


class Records:
    """The log and the tale of a stage, where its turns ended, and what was said in the last one."""

    def __init__(self):
        self.entries = []
        self.happened = []
        # For each turn that is over, how long the log was then.
        self.ends = []
        self.said = []

    def again(self):
        """Ones of its own that are the same."""
        other = Records()
        other.entries = list(self.entries)
        other.happened = list(self.happened)
        other.ends = list(self.ends)
        other.said = list(self.said)
        return other

    def note(self, one, word, what):
        """One more entry of the tale, of that one."""
        self.entries.append((len(self.ends), one[0], one[1], word, what))

    def note_said(self, one, value):
        self.note(one, "said", value)
        self.said.append((one[0], value))

    def note_happened(self, happening):
        self.happened.append(happening)

    def begin_turn(self):
        self.said = []

    def end_turn(self):
        self.note_happened(("turn",))
        self.ends.append(len(self.happened))
