"""Looks, by which a deed reads values, and tests: what they are, and what they come to."""

from figuredeeds.errors import Fell

LEAST_VALUE = -1000000
MOST_VALUE = 1000000
LONGEST_NAME = 8
DEEPEST = 6

# A name's kind tells of what it is the name, so that a play's can be looked for there.
NAME_KINDS = ("name", "list", "figure")
# The kinds of the parts behind each word; a value is a look, too, but without a word.
PARTS = {
    ("look", "name"): ("name",),
    ("look", "plus"): ("look", "look"),
    ("look", "minus"): ("look", "look"),
    ("look", "by"): ("look", "look"),
    ("look", "over"): ("look", "look"),
    ("look", "rest"): ("look", "look"),
    ("look", "item"): ("list", "look"),
    ("look", "many"): ("list",),
    ("look", "x"): (),
    ("look", "y"): (),
    ("look", "way"): (),
    ("look", "number"): (),
    ("test", "like"): ("look", "look"),
    ("test", "below"): ("look", "look"),
    ("test", "not"): ("test",),
    ("test", "both"): ("test", "test"),
    ("test", "any"): ("test", "test"),
    ("test", "meets"): ("figure",),
}
SPOT_WORDS = ("x", "y", "way", "number")


def is_number(thing):
    # To Python True and False are whole numbers, too.
    return isinstance(thing, int) and not isinstance(thing, bool)


def is_value(thing):
    return is_number(thing) and LEAST_VALUE <= thing <= MOST_VALUE


def is_name(thing):
    if not isinstance(thing, str) or not 1 <= len(thing) <= LONGEST_NAME:
        return False
    return all(["a" <= letter <= "z" for letter in thing])


def is_look(thing):
    """Whether it is a look, at most six deep."""
    return is_part(thing, "look", DEEPEST)


def is_test(thing):
    """Whether it is a test, at most six deep."""
    return is_part(thing, "test", DEEPEST)


def is_part(thing, kind, deep):
    """Whether it is a NAME, look or test, as kind has it, a look or test at most so deep."""
    if kind in NAME_KINDS:
        return is_name(thing)
    if deep < 1:
        return False
    if kind == "look" and is_value(thing):
        return True
    return has_parts(thing, kind, deep)


def is_worded(thing):
    """Whether it is a tuple with a text first, by which its parts can be told."""
    return isinstance(thing, tuple) and len(thing) > 0 and isinstance(thing[0], str)


def has_parts(thing, kind, deep):
    """Whether it is a word of that kind with its parts, at most so deep."""
    if not is_worded(thing):
        return False
    kinds = PARTS.get((kind, thing[0]))
    if kinds is None or len(thing) != len(kinds) + 1:
        return False
    return all([is_part(part, wanted, deep - 1) for part, wanted in zip(thing[1:], kinds)])


def names_in(part, kind):
    """The pairs (kind, NAME) of all that a look or test names."""
    if kind in NAME_KINDS:
        return [(kind, part)]
    if is_number(part):
        return []
    named = []
    for inner, wanted in zip(part[1:], PARTS[kind, part[0]]):
        named.extend(names_in(inner, wanted))
    return named


def plus(first, second):
    return first + second


def minus(first, second):
    return first - second


def by(first, second):
    return first * second


def over(first, second):
    if second == 0:
        raise Fell("nought")
    return first // second


def rest(first, second):
    if second == 0:
        raise Fell("nought")
    return first % second


SUMS = {"plus": plus, "minus": minus, "by": by, "over": over, "rest": rest}


def value_of(look, eyes):
    """The value to which a look comes by these eyes."""
    value = outcome(look, eyes)
    if not is_value(value):
        raise Fell("far")
    return value


def outcome(look, eyes):
    """To what a look comes; its parts are values by then, itself it may be none."""
    if is_number(look):
        return look
    names, lists, spot, met = eyes
    word = look[0]
    if word == "name":
        return first_of(names, look[1])
    if word == "many":
        return len(first_of(lists, look[1]))
    if word == "item":
        row = first_of(lists, look[1])
        return row[place_in(row, value_of(look[2], eyes))]
    if word in SPOT_WORDS:
        return spot[SPOT_WORDS.index(word)]
    first = value_of(look[1], eyes)
    second = value_of(look[2], eyes)
    action = SUMS[word]
    return action(first, second)


def first_of(pairs, name):
    """What stands beside that name where it comes first."""
    for other, held in pairs:
        if other == name:
            return held
    raise Fell("none")


def place_in(row, place):
    """The place, where a list has it: below 0 is none, though Python counts from the end there."""
    if not 0 <= place < len(row):
        raise Fell("none")
    return place


def holds(test, eyes):
    """Whether a test holds by these eyes."""
    word = test[0]
    if word == "meets":
        return test[1] in eyes[3]
    if word == "not":
        return not holds(test[1], eyes)
    if word == "both":
        return holds(test[1], eyes) and holds(test[2], eyes)
    if word == "any":
        return holds(test[1], eyes) or holds(test[2], eyes)
    first = value_of(test[1], eyes)
    second = value_of(test[2], eyes)
    return first == second if word == "like" else first < second
