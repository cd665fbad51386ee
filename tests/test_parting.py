import unittest

from figuredeeds.errors import TooMany
from figuredeeds.parting import MOST_PAIRS, parted, shows_parted
from tests.pairs_of_plays import (
    DOWN, FLAG, TURN, UP, counter, cycle, parted_by_hand, says_at, variants, walked,
)
from tests.plays_at_hand import NO_PART, RICH, as_lists, figure, part_at, places_in, play_of, script, with_part
from tests.random_plays import Maker

STILL = play_of(figure("cat"))
TEA = ("news", "tea")
TOUCH = ("touch", "cat", 0)
NAME = ("name", "n")


def when(count, *deeds):
    """These deeds, where n has come to that count."""
    return ("if", ("like", NAME, count), deeds, ())


def on_up(*deeds, **more):
    """A play of a figure that does these deeds by the key up."""
    return play_of(figure("cat", script("key up", *deeds), **more))


class Rows(unittest.TestCase):
    def expect(self, play, other, happenings, row, **more):
        told = parted(play, other, happenings, **more)
        self.assertEqual(told, row)
        self.assertEqual(parted(other, play, happenings, **more), row)
        if row is not None:
            self.assertIs(shows_parted(play, other, happenings, told), True)
            self.assertIs(shows_parted(other, play, happenings, told), True)

    def test_by_the_first_happening(self):
        self.expect(says_at(1), counter(), [UP], [UP])
        self.expect(play_of(figure("cat", script("flag", ("say", 1)))), STILL, [FLAG], [FLAG])
        self.expect(play_of(figure("cat", script("news tea", ("move", 1)))), STILL, [TEA], [TEA])
        self.expect(play_of(figure("cat", script("touch", ("turn", 1)))), STILL, [TOUCH], [TOUCH])

    def test_by_two_three_and_more(self):
        for many in (2, 3, 4, 7, 20, 59):
            self.expect(says_at(many), counter(), [UP], [UP] * many)

    def test_by_one_happening_among_four(self):
        play = counter(more=(script("touch", when(2, ("say", 1))),))
        other = counter(when(3, ("hide",)))
        self.expect(play, other, [FLAG, TURN, TOUCH, UP], [UP, UP, TOUCH])
        self.expect(play, other, [UP, TOUCH, FLAG, TURN], [UP, UP, UP])
        self.expect(play, other, [FLAG, TURN, UP], [UP, UP, UP])
        self.expect(play, other, [FLAG, TURN, TOUCH, DOWN], None)

    def test_shorter_ones_come_first_then_by_the_order_handed_in(self):
        play = play_of(figure("cat", script("key up", ("say", 1)), script("key down", ("say", 2))))
        self.expect(play, STILL, [UP, DOWN], [UP])
        self.expect(play, STILL, [DOWN, UP], [DOWN])
        self.expect(play, STILL, [FLAG, TURN, DOWN, UP], [DOWN])
        # Each key says something once the other one was there.
        speak = ("if", ("both", ("like", NAME, 1), ("like", ("name", "m"), 1)), (("say", 1),), ())
        scripts = (script("key up", ("set", "n", 1), speak), script("key down", ("set", "m", 1), speak))
        both = play_of(figure("cat", *scripts, names=(("n", 0), ("m", 0))))
        self.expect(both, STILL, [UP, DOWN], [UP, DOWN])
        self.expect(both, STILL, [DOWN, UP], [DOWN, UP])
        self.expect(both, STILL, [DOWN, FLAG, UP], [DOWN, UP])

    def test_a_turn_is_just_that(self):
        play = play_of(figure("cat", script("flag", ("wait", 2), ("say", 1))))
        self.expect(play, STILL, [TURN], None)
        self.expect(play, STILL, [FLAG], None)
        self.expect(play, STILL, [TURN, FLAG], [FLAG, TURN, TURN])
        self.expect(play, STILL, [FLAG, TURN], [FLAG, TURN, TURN])
        once = play_of(figure("cat", script("flag", ("wait", 1), ("say", 1))))
        self.expect(once, STILL, [FLAG, TURN], [FLAG, TURN])

    def test_each_other_happening_has_one_turn_behind_it(self):
        play = on_up(("wait", 1), ("say", 1))
        self.expect(play, STILL, [UP], [UP, UP])
        self.expect(play, STILL, [UP, TURN], [UP, UP])
        self.expect(play, STILL, [TURN, UP], [UP, TURN])

    def test_ahead_of_all_happenings_nothing_is_looked_at(self):
        here, there = on_up(("place", 2, 2), spot=(0, 0, 0)), on_up(("place", 2, 2), spot=(1, 1, 0))
        self.expect(here, there, [UP], None)
        self.expect(here, there, [TURN], [TURN])
        self.expect(here, there, [UP, DOWN], [DOWN])

    def test_all_that_is_seen_parts_them(self):
        for deed in (("move", 1), ("turn", 1), ("hide",), ("place", 0, 1), ("say", 0), ("copy", None)):
            self.expect(on_up(deed), STILL, [UP], [UP])
        for one, two in ((("say", 1), ("say", 2)), (("move", 1), ("move", 2))):
            self.expect(on_up(one), on_up(two), [UP], [UP])
        self.expect(play_of(figure("cat")), play_of(figure("dog")), [UP], [UP])
        self.expect(play_of(figure("cat"), figure("dog")), play_of(figure("dog"), figure("cat")), [TURN], [TURN])
        self.expect(play_of(figure("cat"), figure("dog")), STILL, [TURN], [TURN])

    def test_what_is_not_seen_does_not(self):
        for other in (
            play_of(figure("cat"), size=(9, 9)), play_of(figure("cat"), names=(("n", 1),), lists=(("bag", (1,)),)),
            play_of(figure("cat", names=(("n", 1),))), on_up(("show",), ("wait", 3)), on_up(("move", ("over", 1, 0))),
            on_up(("hide",), ("show",)), on_up(("ever", (("move", 1), ("move", -1)))),
        ):
            self.expect(STILL, other, [UP, DOWN, TURN, FLAG], None)

    def test_hidden_ones_and_what_was_said_behind_the_turn(self):
        hidden = play_of(figure("cat"), figure("dog", script("key up", ("move", 1)), script("flag", ("hide",))))
        still = play_of(figure("cat"), figure("dog", script("flag", ("hide",))))
        self.expect(hidden, still, [FLAG, UP], [UP])
        self.expect(hidden, still, [FLAG], None)

    def test_touches_of_figures_of_both(self):
        cat = figure("cat", script("touch", ("say", 1)))
        dogs = [figure("dog", script("touch", ("wait", many), ("move", 1))) for many in (1, 2)]
        play, other = play_of(cat, dogs[0]), play_of(cat, dogs[1])
        dog = ("touch", "dog", 0)
        self.expect(play, other, [TOUCH], None)
        self.expect(play, other, [dog], [dog, dog])
        self.expect(play, other, [TOUCH, dog], [dog, TOUCH])
        self.expect(play, other, [TOUCH, dog, TURN], [dog, TOUCH])
        self.expect(play, other, [TURN, TOUCH, dog], [dog, TURN])

    def test_with_copies_news_and_closed_pieces(self):
        hop = ("hop", "closed", ("far",), (("times", ("name", "far"), (("move", 1),)),))
        step = ("hop", "closed", ("far",), (("move", ("name", "far")),))

        def play(piece, last):
            away = ("if", ("below", 0, ("number",)), (("end",),), ())
            scripts = (script("flag", ("copy", None), ("await", "tea"), ("say", last)),
                       script("born", ("do", "hop", (2,))), script("news tea", ("do", "hop", (1,)), away))
            dog = figure("dog", script("news tea", ("wait", 1), ("turn", 1)), spot=(0, 1, 0))
            return play_of(figure("cat", *scripts, pieces=(piece,)), dog)

        self.expect(play(hop, 1), play(step, 1), [FLAG, TURN, TEA, UP], None)
        self.expect(play(hop, 1), play(step, 2), [FLAG, TURN], [FLAG, TURN, TURN, TURN])
        self.expect(play(hop, 1), play(step, 2), [FLAG], None)

    def test_the_stages_have_a_hundred_items_and_six_copies(self):
        def looped(many, deed):
            loop = ("loop", "closed", (), (("times", NAME, (deed,)),))
            return on_up(("do", "loop", ()), ("say", 1), pieces=(loop,), names=(("n", many),))

        def items(many):
            return looped(many, ("show",))

        def copies(many):
            return looped(many, ("copy", None))

        # A round has three items; do, the last times, out and say are four more.
        self.expect(items(32), items(31), [UP], None)
        self.expect(items(33), items(32), [UP], [UP])
        self.expect(copies(5), copies(6), [UP], [UP])
        self.expect(copies(7), copies(6), [UP], [UP])
        self.expect(copies(8), copies(7), [UP], None)

    def test_told_is_a_list_of_tuples_of_its_own(self):
        happenings = [UP, DOWN]
        row = parted(says_at(2), counter(), happenings)
        self.assertIs(type(row), list)
        self.assertEqual([type(happening) for happening in row], [tuple, tuple])
        row.append("changed")
        self.assertEqual(parted(says_at(2), counter(), happenings), [UP, UP])
        self.assertEqual(happenings, [UP, DOWN])


class TooManyPairs(unittest.TestCase):
    def expect_refused(self, play, other, happenings, **more):
        with self.assertRaises(TooMany) as caught:
            parted(play, other, happenings, **more)
        self.assertEqual(caught.exception.most, more.get("most", 60))

    def test_as_many_as_most_and_one_more(self):
        for many in (1, 2, 5, 60, 100):
            play = cycle(many)
            self.assertIsNone(parted(play, STILL, [UP], most=many))
            if many > 1:
                self.expect_refused(play, STILL, [UP], most=many - 1)
                self.expect_refused(STILL, play, [UP], most=many - 1)

    def test_without_more_said_sixty(self):
        self.assertEqual(MOST_PAIRS, 60)
        self.assertIsNone(parted(cycle(60), STILL, [UP]))
        self.expect_refused(cycle(61), STILL, [UP])
        self.assertEqual(parted(says_at(60), counter(), [UP]), [UP] * 60)
        self.expect_refused(says_at(61), counter(), [UP])

    def test_pairs_count_not_the_states_of_one(self):
        self.assertIsNone(parted(cycle(4), cycle(6), [UP], most=12))
        self.expect_refused(cycle(4), cycle(6), [UP], most=11)

    def test_each_pair_once(self):
        # Four happenings that do nothing come to the first pair again.
        self.assertIsNone(parted(STILL, STILL, [UP, DOWN, TURN, FLAG], most=1))
        self.assertIsNone(parted(cycle(3), STILL, [UP, DOWN, TURN, FLAG], most=3))

    def test_most_of_one(self):
        self.assertEqual(parted(says_at(1), counter(), [UP], most=1), [UP])
        self.expect_refused(says_at(2), counter(), [UP], most=1)

    def test_ahead_of_a_row_that_parts(self):
        for many in (2, 3, 10):
            # Behind so many there are as many pairs, the bare row's counted, ahead of the row that parts.
            self.assertEqual(parted(says_at(many), counter(), [UP], most=many), [UP] * many)
            self.expect_refused(says_at(many), counter(), [UP], most=many - 1)

    def test_the_pair_that_parts_does_not_count(self):
        play = counter(hat="key down", more=(script("key up", ("move", 1)),))
        self.assertEqual(parted(play, STILL, [UP, DOWN], most=1), [UP])
        self.expect_refused(play, STILL, [DOWN, UP], most=1)
        self.assertEqual(parted(play, STILL, [DOWN, UP], most=2), [UP])

    def test_behind_a_row_that_parts_nothing_is_counted(self):
        more = (script("key down", ("add", "n", 5)),)
        play, other = says_at(3, more=more), counter(more=more)
        # Of the rows of one happening two more pairs come, of those of two three more.
        self.assertEqual(parted(play, other, [UP, DOWN], most=6), [UP, UP, UP])
        self.expect_refused(play, other, [UP, DOWN], most=5)


class ByHand(unittest.TestCase):
    def test_what_is_told_is_as_gone_through_by_hand(self):
        kinds = set()
        for seed in range(25):
            maker = Maker(seed)
            play = maker.play()
            happenings = [FLAG, UP, TURN, TEA, TOUCH]
            maker.chance.shuffle(happenings)
            happenings = happenings[:maker.one_of(1, 2, 3, 4)]
            for other in variants(maker, play, 3):
                for most in (2, 9):
                    by_hand = parted_by_hand(play, other, happenings, most, 3)
                    kinds.add(None if by_hand is None else by_hand[0])
                    self.compare(play, other, happenings, most, by_hand)
        self.assertEqual(kinds, {"row", "many", "alike", None})

    def compare(self, play, other, happenings, most, by_hand):
        try:
            row = parted(play, other, happenings, most=most)
            told = ("alike",) if row is None else ("row", row)
        except TooMany as refused:
            self.assertEqual(refused.most, most)
            told = ("many",)
        if by_hand is not None:
            self.assertEqual(told, by_hand)
        if told[0] == "row":
            self.assertNotEqual(walked(play, told[1])[1], walked(other, told[1])[1])
            self.assertEqual(walked(play, told[1][:-1])[1], walked(other, told[1][:-1])[1])
            self.assertIs(shows_parted(play, other, happenings, told[1]), True)
            self.assertIs(shows_parted(play, other, happenings, told[1][:-1]), False)


class ShowsParted(unittest.TestCase):
    PLAYS = (says_at(2), counter())
    STEPS = [UP, DOWN, TOUCH, TURN]

    def expect(self, thing, wanted):
        with self.subTest(thing=thing):
            self.assertIs(shows_parted(*self.PLAYS, self.STEPS, thing), wanted)

    def test_rows(self):
        self.expect([], False)
        self.expect([UP], False)
        self.expect([UP, UP], True)
        self.expect([UP, DOWN, TURN, TOUCH], False)
        self.expect([UP, DOWN, TURN, TOUCH, UP], True)
        # Whichever turn it is by which they part, they aren't seen alike behind the row.
        self.expect([UP, UP, UP], True)
        self.expect([UP, UP, UP, TURN, DOWN], True)

    def test_no_row_of_these_happenings(self):
        for happening in (("key", "left"), FLAG, ("news", "up"), ("touch", "cat", 1), ("touch", "dog", 0), ("key",)):
            self.expect([UP, UP, happening], False)
            self.expect([happening, UP, UP], False)
        self.assertIs(shows_parted(*self.PLAYS, [DOWN], [UP, UP]), False)

    def test_kind_by_kind(self):
        self.expect([UP, UP, TOUCH], True)
        self.expect([UP, UP, ("touch", "cat", False)], False)
        self.expect((UP, UP), False)
        self.expect([list(UP), UP], False)
        self.expect([UP, UP, ["touch", "cat", 0]], False)
        row = [UP, UP, TURN, TOUCH]
        for place in places_in(row):
            part = part_at(row, place)
            # A text's letters are no row of NAMEs, so that a wrong part may be made of any part.
            for wrong in (None, True, False, 1, "", "left", (), [], [part], (part,), list(str(part))):
                self.expect(with_part(row, place, wrong), False)
            if isinstance(part, tuple):
                self.expect(with_part(row, place, list(part)), False)

    def test_things_of_any_kind(self):
        for thing in NO_PART + [(), {}, "up"]:
            self.expect(thing, False)
            self.expect([thing], False)
            self.expect([UP, UP, thing], False)
            self.expect([thing, UP, UP], False)

    def test_very_deep_and_very_many(self):
        deep = []
        for _ in range(28):
            deep = [deep]
        self.expect(deep, False)
        self.expect([1] * 2900, False)
        self.expect([TURN] * 1400, False)
        self.expect([TURN] * 1000 + [UP] * 300, True)

    def test_alike_plays(self):
        for row in ([], [UP], [UP, UP, UP], [TURN, DOWN]):
            self.assertIs(shows_parted(counter(), STILL, self.STEPS, row), False)
            self.assertIs(shows_parted(RICH, RICH, [UP, DOWN, TURN], row), False)

    def test_ahead_of_all_nothing_is_looked_at(self):
        here, there = on_up(("place", 2, 2), spot=(0, 0, 0)), on_up(("place", 2, 2), spot=(1, 1, 0))
        for row, wanted in (([], False), ([UP], False), ([UP, DOWN], False), ([DOWN, UP], True)):
            self.assertIs(shows_parted(here, there, [UP, DOWN], row), wanted)


class HandedIn(unittest.TestCase):
    def test_lists_for_tuples_and_tuples_for_lists(self):
        plays = (says_at(2), counter())
        for happenings in ([UP, TOUCH], (UP, TOUCH), as_lists((UP, TOUCH)), (list(UP), list(TOUCH))):
            row = parted(*plays, happenings)
            self.assertEqual(row, [UP, UP])
            self.assertEqual([type(happening) for happening in row], [tuple, tuple])
            self.assertIs(shows_parted(*plays, happenings, [UP, TOUCH, UP]), True)
            self.assertIs(shows_parted(*plays, happenings, [UP, list(TOUCH), UP]), False)
        for happenings in ([TURN, UP], as_lists((TURN, UP))):
            self.assertEqual(parted(on_up(("wait", 1), ("say", 1)), STILL, happenings), [UP, TURN])

    def test_plays_of_lists_are_taken_too(self):
        plays = (as_lists(says_at(2)), as_lists(counter()))
        self.assertEqual(parted(*plays, [UP]), [UP, UP])
        self.assertIs(shows_parted(*plays, [UP], [UP, UP]), True)
        self.assertIs(shows_parted(*plays, [UP], [UP]), False)
        self.assertEqual(plays, (as_lists(says_at(2)), as_lists(counter())))

    def test_nothing_is_changed(self):
        happenings = [list(UP), ["turn"]]
        row = [UP, UP]
        parted(says_at(2), counter(), happenings)
        shows_parted(says_at(2), counter(), happenings, row)
        self.assertEqual(happenings, [["key", "up"], ["turn"]])
        self.assertEqual(row, [UP, UP])

    def test_a_told_row_is_not_what_was_handed_in(self):
        happenings = [["key", "up"]]
        row = parted(says_at(2), counter(), happenings)
        happenings[0].append("changed")
        happenings.clear()
        self.assertEqual(row, [UP, UP])

    def test_told_the_same_again(self):
        for most in (1, 60):
            told = []
            for _ in range(2):
                try:
                    told.append(parted(says_at(3), counter(), [UP, DOWN], most=most))
                except TooMany as refused:
                    told.append(refused.most)
            self.assertEqual(*told)
        rows = [parted(says_at(1), counter(), [UP]) for _ in range(2)]
        self.assertIsNot(*rows)

    def test_by_names(self):
        self.assertEqual(parted(happenings=[UP], other=counter(), play=says_at(1), most=1), [UP])
        self.assertIs(shows_parted(thing=[UP], happenings=[UP], other=counter(), play=says_at(1)), True)


if __name__ == "__main__":
    unittest.main()
