"""Replays: a stage that comes of a log, gone through again."""

from figuredeeds.errors import NoOne, NoTurn
from figuredeeds.looks import is_name, is_number, is_worded
from figuredeeds.stage import MOST_COPIES, MOST_ITEMS, Stage
from figuredeeds.tuples import tupled


def happen(stage, happening):
    """Lets that happen with the stage, a turn too."""
    word = happening[0]
    if word == "flag":
        stage.flag()
    elif word == "key":
        stage.key(happening[1])
    elif word == "touch":
        stage.touch(happening[1], number=happening[2])
    elif word == "news":
        stage.news(happening[1])
    else:
        stage.turn()


def replay(play, log, *, most=MOST_ITEMS, copies=MOST_COPIES):
    """A stage with which all of a log happened."""
    stage = Stage(play, most=most, copies=copies)
    for happening in log:
        happen(stage, happening)
    return stage


def is_happening(thing):
    """Whether it is what a log may have, whoever is there to be touched."""
    if not is_worded(thing):
        return False
    word = thing[0]
    if word in ("key", "news"):
        return len(thing) == 2 and is_name(thing[1])
    if word == "touch":
        return len(thing) == 3 and is_name(thing[1]) and is_number(thing[2])
    return word in ("flag", "turn") and len(thing) == 1


def shows_log(play, thing, *, most=MOST_ITEMS, copies=MOST_COPIES):
    """Whether it is a log that a stage of the play may have."""
    if not isinstance(thing, list) or not all([is_happening(happening) for happening in thing]):
        return False
    try:
        # What is asked of is the log alone: the play may have lists for its tuples.
        replay(tupled(play), thing, most=most, copies=copies)
    except NoOne:
        return False
    return True


def as_of(stage, many):
    """The stage as it was behind its first so many turns."""
    if many > len(stage):
        raise NoTurn(many)
    log = stage.log()[:stage.troupe.records.ends[many - 1]] if many > 0 else []
    return replay(stage.play, log, most=stage.most, copies=stage.copies)
