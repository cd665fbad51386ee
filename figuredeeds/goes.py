"""Goes: what a run does, item by item, when it has its go."""

from figuredeeds.controls import is_control, led_on, refuse_closed
from figuredeeds.errors import Fell

GROUND_DEEDS = ("move", "turn", "place", "show", "hide", "say", "set", "add", "put", "drop", "write")


def go(troupe, run, most):
    """Lets a run take items, at most so many, until one gives its go away or the run is over."""
    many = 0
    gives = False
    try:
        while run.left and not gives and troupe.is_standing(run.mark):
            if many >= most:
                raise Fell("long")
            many += 1
            gives = take(troupe, run)
    except Fell as fell:
        troupe.records.note(run.one, "fell", fell.word)
        troupe.finish([run])
    if not run.left:
        troupe.finish([run])


def take(troupe, run):
    """Takes the first item of the run's rest; told is whether it gives the go away."""
    item = run.left[0]
    if item[0] in GROUND_DEEDS:
        do_on_ground(troupe, run, item)
        return False
    if is_control(item):
        eyes = troupe.ground.eyes(run.one, params=run.params())
        run.left, run.frames, gives = led_on(run.left, run.frames, eyes, troupe.pieces[run.one[0]])
        return gives
    action = STAGE_DEEDS[item[0]]
    return action(troupe, run, item)


def do_on_ground(troupe, run, item):
    value = troupe.ground.do(run.one, item, params=run.params())
    if item[0] == "say":
        troupe.records.note_said(run.one, value)
    drop_first(run)


def drop_first(run):
    run.left = run.left[1:]


# Each of these does an item that isn't the ground's, and tells whether it gives the go away.


def by_tell(troupe, run, item):
    troupe.tell(item[1])
    drop_first(run)
    return False


def by_await(troupe, run, item):
    refuse_closed(run.frames)
    run.awaited = tuple(troupe.tell(item[1]))
    run.left = (("ended",), *run.left[1:])
    return False


def by_ended(troupe, run, item):
    if any([troupe.is_standing(mark) for mark in run.awaited]):
        return True
    drop_first(run)
    return False


def by_copy(troupe, run, item):
    troupe.add_copy(run.one if item[1] is None else (item[1], 0))
    drop_first(run)
    return False


def by_end(troupe, run, item):
    if run.one[1] > 0:
        troupe.send_off(run.one)
    else:
        troupe.finish([run])
    return False


def by_stop(troupe, run, item):
    if item[1] == "run":
        troupe.finish([run])
    elif item[1] == "others":
        troupe.finish([other for other in troupe.runs_of(run.one) if other.mark != run.mark])
    else:
        troupe.clear_all()
    drop_first(run)
    return False


STAGE_DEEDS = {
    "tell": by_tell,
    "await": by_await,
    "ended": by_ended,
    "copy": by_copy,
    "end": by_end,
    "stop": by_stop,
}
