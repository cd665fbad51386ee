"""Pairs of plays to be told apart, and what the document says of them, gone through by hand."""

import itertools

from figuredeeds.plays import is_play
from figuredeeds.stage import Stage
from tests.plays_at_hand import figure, part_at, places_in, play_of, script, with_part

UP = ("key", "up")
DOWN = ("key", "down")
TURN = ("turn",)
FLAG = ("flag",)


def counter(*deeds, hat="key up", more=(), start=0):
    """A play of a figure that counts in n how often its script begins, then does these deeds."""
    return play_of(figure("cat", script(hat, ("add", "n", 1), *deeds), *more, names=(("n", start),)))


def says_at(count, value=1, **more):
    """A counter that says a value when it comes to that count."""
    return counter(("if", ("like", ("name", "n"), count), (("say", value),), ()), **more)


def cycle(many):
    """A play that comes back to its first state behind so many of UP, and is seen the same all the time."""
    return counter(("if", ("like", ("name", "n"), many), (("set", "n", 0),), ()))


def lead(stage, happening):
    """One happening of a row with its turn, by the stage's own methods."""
    word, *parts = happening
    if word == "flag":
        stage.flag()
    elif word == "key":
        stage.key(*parts)
    elif word == "news":
        stage.news(*parts)
    elif word == "touch":
        stage.touch(parts[0], number=parts[1])
    stage.turn()


def walked(play, row):
    """The state behind a row, and all that was seen on the way."""
    stage = Stage(play)
    seen = []
    for happening in row:
        lead(stage, happening)
        seen.append(stage.seen())
    return stage.state(), seen


def parted_by_hand(play, other, happenings, most, longest):
    """As parted: ("row", row), ("alike",), ("many",), or None where rows up to the longest leave it open."""
    pairs = []
    for length in range(longest + 1):
        news = 0
        for row in itertools.product(happenings, repeat=length):
            (state, seen), (other_state, other_seen) = walked(play, row), walked(other, row)
            if seen != other_seen:
                return ("row", list(row))
            if (state, other_state) not in pairs:
                pairs.append((state, other_state))
                news += 1
            if len(pairs) > most:
                return ("many",)
        if not news:
            return ("alike",)
    return None


def variants(maker, play, many):
    """Plays that have another value in one place of that one."""
    places = [place for place in places_in(play) if isinstance(part_at(play, place), int)]
    found = []
    while len(found) < many:
        place = maker.one_of(*places)
        other = with_part(play, place, part_at(play, place) + maker.one_of(-1, 1))
        if is_play(other):
            found.append(other)
    return found
