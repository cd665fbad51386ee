"""A desk: a text of a play and of lines that lead its stage or ask it, each of which is answered."""

from figuredeeds.errors import BadLine, NoOne, NotOpen, NoTurn, Open
from figuredeeds.lines import Line
from figuredeeds.replays import as_of, happen
from figuredeeds.stage import MOST_COPIES, MOST_ITEMS, Stage
from figuredeeds.texts import draft_of, line_of, play_of

MOST_TURNS = 50
# For each line's word the kinds of what may stand behind it; some may have this or that.
FORMS = {
    "flag": ((),),
    "key": (("name",),),
    "touch": (("name", "count"),),
    "news": (("name",),),
    "turn": ((),),
    "turns": (("turns",),),
    "start": ((),),
    "step": ((),),
    "rest": ((),),
    "ones": ((),),
    "spot": (("name", "count"),),
    "names": ((), ("name", "count")),
    "lists": ((), ("name", "count")),
    "runs": ((),),
    "seen": ((),),
    "said": ((),),
    "fell": ((),),
    "log": ((),),
    "as": (("count",),),
}


def asked_part(line, kind):
    """The line's next part, of that kind."""
    if kind == "name":
        return line.next_name()
    many = line.next_count()
    line.refuse_unless(kind != "turns" or 1 <= many <= MOST_TURNS)
    return many


def asked_in(line):
    """What a line behind `stage` has: its word and its parts."""
    word = line.next_word()
    for form in FORMS.get(word, ()):
        if len(form) == len(line.words) - 1:
            parts = [asked_part(line, kind) for kind in form]
            return (word, *parts)
    raise BadLine(line.number)


def answer_of(rows):
    """The answer that tells these rows."""
    return "; ".join([line_of(tuple(row)) for row in rows]) if rows else "-"


# Each of these tells the answer to what a line has.


def by_happening(stage, entry):
    happen(stage, entry)
    return "ok"


def by_turn(stage, entry):
    return str(stage.turn())


def by_turns(stage, entry):
    many = 0
    for turn in range(entry[1]):
        many += stage.turn()
    return str(many)


def by_start(stage, entry):
    stage.start()
    return "ok"


def by_step(stage, entry):
    goer = stage.step()
    return answer_of([] if goer is None else [goer])


def by_rest(stage, entry):
    return str(stage.rest())


def by_ones(stage, entry):
    return answer_of(stage.ones())


def by_spot(stage, entry):
    return answer_of([stage.spot(entry[1], number=entry[2])])


def asked_of(entry):
    """Of whom names or lists are asked: figure and number, those of all where the line has none."""
    return (entry[1], entry[2]) if len(entry) > 1 else (None, 0)


def by_names(stage, entry):
    figure, number = asked_of(entry)
    return answer_of(stage.names(figure=figure, number=number))


def by_lists(stage, entry):
    figure, number = asked_of(entry)
    return answer_of([(name, *values) for name, values in stage.lists(figure=figure, number=number)])


def by_runs(stage, entry):
    runs = stage.runs()
    return answer_of([(figure, number, script, len(left)) for figure, number, script, left, frames, awaited in runs])


def by_seen(stage, entry):
    return answer_of(stage.seen()[0])


def by_tale(stage, entry):
    tale = stage.tale()
    return answer_of([(turn, figure, number, what) for turn, figure, number, word, what in tale if word == entry[0]])


def by_log(stage, entry):
    return str(len(stage.log()))


def by_as(stage, entry):
    return answer_of(as_of(stage, entry[1]).ones())


ANSWERED_BY = {
    "flag": by_happening,
    "key": by_happening,
    "touch": by_happening,
    "news": by_happening,
    "turn": by_turn,
    "turns": by_turns,
    "start": by_start,
    "step": by_step,
    "rest": by_rest,
    "ones": by_ones,
    "spot": by_spot,
    "names": by_names,
    "lists": by_lists,
    "runs": by_runs,
    "seen": by_seen,
    "said": by_tale,
    "fell": by_tale,
    "log": by_log,
    "as": by_as,
}


def answer(stage, entry):
    """What the stage answers, or that it is refused, and by what."""
    action = ANSWERED_BY[entry[0]]
    try:
        return action(stage, entry)
    except Open:
        return "refused Open"
    except NotOpen:
        return "refused NotOpen"
    except NoOne:
        return "refused NoOne"
    except NoTurn:
        return "refused NoTurn"


def run(text, *, most=MOST_ITEMS, copies=MOST_COPIES):
    """The answers to all lines behind the first line `stage`, ahead of which a play's text stands."""
    lines = text.split("\n")
    if "stage" not in lines:
        draft_of(lines)
        raise BadLine(len(lines))
    at = lines.index("stage")
    play = play_of(lines[:at])
    # All are looked at ahead of the first answer.
    entries = [asked_in(Line(number, lines[number])) for number in range(at + 1, len(lines))]
    stage = Stage(play, most=most, copies=copies)
    return [answer(stage, entry) for entry in entries]
