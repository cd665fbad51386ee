"""Texts of plays: a play's lines, and the play that lines come to."""

from figuredeeds.drafts import Draft
from figuredeeds.errors import BadLine
from figuredeeds.lines import Line, is_written
from figuredeeds.looks import NAME_KINDS, PARTS
from figuredeeds.plays import DEEDS, NAMED_HATS, PIECE_KINDS, PLAIN_HATS, STOP_WORDS, is_play
from figuredeeds.tuples import tupled

# The kinds of the parts behind the word of each line that is no deed's.
LINES = {
    "ground": ("number", "number"),
    "name": ("name", "number"),
    "list": ("name", "numbers"),
    "figure": ("name", "number", "number", "number"),
    "piece": ("name", "kind", "names"),
    "script": ("hat",),
    "else": (),
    "done": (),
}


def play_text(play):
    """The play's text."""
    size, names, lists, figures = tupled(play)
    lines = [line_of(("ground", *size)), *held_lines(names, lists)]
    for figure in figures:
        lines.extend(figure_lines(figure))
    return "\n".join(lines)


def words_in(thing):
    """All its words, one behind the other, without brackets; None has none."""
    if thing is None:
        return []
    if isinstance(thing, tuple):
        return [word for part in thing for word in words_in(part)]
    return [str(thing)]


def line_of(thing):
    """The line of all its words."""
    return " ".join(words_in(thing))


def held_lines(names, lists):
    return [line_of(("name", pair)) for pair in names] + [line_of(("list", pair)) for pair in lists]


def figure_lines(figure):
    name, spot, names, lists, pieces, scripts = figure
    lines = [line_of(("figure", name, spot)), *held_lines(names, lists)]
    for piece in pieces:
        lines.extend([line_of(("piece", piece[:3])), *block_lines(piece[3])])
    for hat, block in scripts:
        lines.extend([line_of(("script", hat)), *block_lines(block)])
    return lines


def block_lines(block):
    return [line for deed in block for line in deed_lines(deed)]


def deed_lines(deed):
    """The deed's line and, where it has blocks, theirs and a done."""
    kinds = DEEDS[deed[0]]
    plain = [part for part, kind in zip(deed[1:], kinds) if kind != "block"]
    blocks = [part for part, kind in zip(deed[1:], kinds) if kind == "block"]
    lines = [line_of((deed[0], *plain))]
    if not blocks:
        return lines
    lines.extend(block_lines(blocks[0]))
    if len(blocks) > 1 and len(blocks[1]) > 0:
        lines.extend(["else", *block_lines(blocks[1])])
    return [*lines, "done"]


# Each of these takes one part of its kind from a line.


def part_in(line, kind):
    """The NAME, look or test, as kind has it."""
    if kind in NAME_KINDS:
        return line.next_name()
    word = line.next_word()
    if kind == "look" and is_written(word):
        return int(word)
    kinds = PARTS.get((kind, word))
    line.refuse_unless(kinds is not None)
    parts = [part_in(line, wanted) for wanted in kinds]
    return (word, *parts)


def look_in(line):
    return part_in(line, "look")


def truth_in(line):
    return part_in(line, "test")


def looks_in(line):
    return all_in(line, look_in)


def all_in(line, action):
    """All that are left in the line, each taken by the action."""
    parts = []
    while not line.is_over():
        parts.append(action(line))
    return tuple(parts)


def stop_word_in(line):
    return line.next_of(STOP_WORDS)


def figure_in(line):
    # Copy's None is written by nothing.
    return None if line.is_over() else line.next_name()


def name_in(line):
    return line.next_name()


def all_names_in(line):
    return all_in(line, name_in)


def number_in(line):
    return line.next_number()


def all_numbers_in(line):
    return all_in(line, number_in)


def piece_kind_in(line):
    return line.next_of(PIECE_KINDS)


def hat_in(line):
    word = line.next_of(PLAIN_HATS + NAMED_HATS)
    return (word, line.next_name()) if word in NAMED_HATS else (word,)


# Of all kinds that aren't here a part is a NAME.
TAKEN_BY = {
    "look": look_in,
    "test": truth_in,
    "looks": looks_in,
    "word": stop_word_in,
    "figure": figure_in,
    "number": number_in,
    "numbers": all_numbers_in,
    "names": all_names_in,
    "kind": piece_kind_in,
    "hat": hat_in,
}


def taken(line, kind):
    """The line's next part, of that kind."""
    action = TAKEN_BY.get(kind, name_in)
    return action(line)


def entry_in(line):
    """What a line of a play has: its word and its parts, blocks left out."""
    word = line.next_word()
    line.refuse_unless(word in DEEDS or word in LINES)
    kinds = DEEDS[word] if word in DEEDS else LINES[word]
    parts = [taken(line, kind) for kind in kinds if kind != "block"]
    line.refuse_unless(line.is_over())
    return (word, *parts)


def draft_of(lines):
    """What the lines come to, refused by the first one that isn't so written or can't stand where it does."""
    draft = Draft()
    for number, text in enumerate(lines):
        line = Line(number, text)
        entry = entry_in(line)
        line.refuse_unless(draft.can_take(entry))
        draft.grow(entry)
    return draft


def play_of(lines):
    """The play of these lines."""
    draft = draft_of(lines)
    play = draft.whole()
    if draft.is_within() or not is_play(play):
        raise BadLine(len(lines))
    return play


def play_in(text):
    """The play of a text."""
    return play_of(text.split("\n"))
