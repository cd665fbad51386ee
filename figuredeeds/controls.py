"""Controls: what becomes of a run's rest and frames by its first item, where that leads it on."""

from figuredeeds.errors import Fell
from figuredeeds.looks import holds, value_of
from figuredeeds.tuples import tupled

MOST_FRAMES = 6


def is_closed(frames):
    """Whether any of the pieces in which a run is may not be broken into."""
    return any([kind == "closed" for kind, pairs in frames])


def refuse_closed(frames):
    if is_closed(frames):
        raise Fell("closed")


# Each of these tells the items that come in the item's place, the frames, and whether the go is given away.


def by_wait(item, frames, eyes, pieces):
    value = value_of(item[1], eyes)
    if value < 1:
        return ((), frames, False)
    refuse_closed(frames)
    return ((("wait", value - 1),), frames, True)


def by_until(item, frames, eyes, pieces):
    if holds(item[1], eyes):
        return ((), frames, False)
    refuse_closed(frames)
    return ((item,), frames, True)


def by_if(item, frames, eyes, pieces):
    return (item[2] if holds(item[1], eyes) else item[3], frames, False)


def by_times(item, frames, eyes, pieces):
    value = value_of(item[1], eyes)
    if value < 1:
        return ((), frames, False)
    again = ("times", value - 1, item[2])
    return ((*item[2], ("round", again)), frames, False)


def by_while(item, frames, eyes, pieces):
    if not holds(item[1], eyes):
        return ((), frames, False)
    return ((*item[2], ("round", item)), frames, False)


def by_ever(item, frames, eyes, pieces):
    return ((*item[1], ("round", item)), frames, False)


def by_round(item, frames, eyes, pieces):
    return ((item[1],), frames, not is_closed(frames))


def by_do(item, frames, eyes, pieces):
    values = [value_of(look, eyes) for look in item[2]]
    if len(frames) >= MOST_FRAMES:
        raise Fell("deep")
    kind, params, block = piece_called(item[1], pieces)
    pairs = tuple(zip(params, values))
    return ((*block, ("out",)), (*frames, (kind, pairs)), False)


def by_out(item, frames, eyes, pieces):
    return ((), frames[:-1], False)


CONTROLS = {
    "wait": by_wait,
    "until": by_until,
    "if": by_if,
    "times": by_times,
    "while": by_while,
    "ever": by_ever,
    "round": by_round,
    "do": by_do,
    "out": by_out,
}


def piece_called(wanted, pieces):
    """The kind, params and block of the piece of that NAME."""
    for name, kind, params, block in pieces:
        if name == wanted:
            return (kind, params, block)
    raise Fell("none")


def is_control(item):
    return item[0] in CONTROLS


def led_on(rest, frames, eyes, pieces):
    """As unrolled, of tuples throughout."""
    action = CONTROLS[rest[0][0]]
    items, after, gives = action(rest[0], frames, eyes, pieces)
    return (items + rest[1:], after, gives)


def unrolled(rest, frames, eyes, pieces):
    """The rest, the frames, and whether the run gives its go away, behind the rest's first item."""
    return led_on(tupled(rest), tupled(frames), eyes, tupled(pieces))
