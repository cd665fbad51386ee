"""The refusals of the program, each a class of its own, with its fields.

No message is made for them: Python shows by itself what an error is made with.
"""


def kept(thing):
    """The same thing with lists of its own, so that whoever handed it in may go on changing theirs."""
    if isinstance(thing, list):
        return [kept(part) for part in thing]
    if isinstance(thing, tuple):
        return tuple([kept(part) for part in thing])
    return thing


class Fell(RuntimeError):
    """A look, a test or a deed is refused; word tells why."""

    def __init__(self, word):
        self.word = word


class Open(RuntimeError):
    """A turn is open, where none may be."""


class NotOpen(RuntimeError):
    """No turn is open, where one must be."""


class BadPlay(ValueError):
    """What was handed in is no play."""

    def __init__(self, play):
        self.play = kept(play)


class BadLine(ValueError):
    """A text's line of that number, from 0, can't be read."""

    def __init__(self, line):
        self.line = line


class NoOne(LookupError):
    """The figure has no one of that number."""

    def __init__(self, figure, number):
        self.figure = figure
        self.number = number


class NoTurn(IndexError):
    """Fewer turns than so many are over."""

    def __init__(self, many):
        self.many = many


class TooMany(OverflowError):
    """More pairs of states come than at most may."""

    def __init__(self, most):
        self.most = most
