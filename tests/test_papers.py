import unittest

from figuredeeds.errors import TooMany
from figuredeeds.papers import alike_paper, shows_alike
from figuredeeds.parting import parted
from tests.pairs_of_plays import DOWN, FLAG, TURN, UP, counter, cycle, says_at, variants, walked
from tests.plays_at_hand import (
    NO_PART, as_lists, as_tuples, change_all_lists, figure, lists_within, part_at, places_in, play_of, script,
    with_part,
)
from tests.random_plays import Maker

STILL = play_of(figure("cat"))
TOUCH = ("touch", "cat", 0)
# Behind UP and behind a turn they come to states of their own.
WAITS = play_of(figure("cat", script("key up", ("wait", 2), ("show",))))
# By keys up and down it comes to three states, and is seen the same in all of them.
STEPS = play_of(figure("cat", script("key up", ("if", ("below", ("name", "n"), 2), (("add", "n", 1),), ())),
                       script("key down", ("if", ("below", 0, ("name", "n")), (("add", "n", -1),), ())),
                       names=(("n", 0),)))
PAPER = [([], (1, 0)), ([UP], (2, 0)), ([UP, UP], (2, 1))]


def holds_by_hand(play, other, happenings, paper):
    """What the document says of such a list, gone through with stages of their own for each row."""
    behind = [(walked(play, row)[0], walked(other, row)[0]) for row, _ in paper]
    for row, places in paper:
        for happening, place in zip(happenings, places, strict=True):
            (state, seen), (other_state, other_seen) = [walked(one, [*row, happening]) for one in (play, other)]
            if seen != other_seen or (state, other_state) != behind[place]:
                return False
    return paper[0][0] == []


class Papers(unittest.TestCase):
    def expect_paper(self, play, other, happenings, many, **more):
        paper = alike_paper(play, other, happenings, **more)
        self.assertEqual(len(paper), many)
        self.assertIs(type(paper), list)
        for pair in paper:
            self.assertIs(type(pair), tuple)
            row, places = pair
            self.assertEqual((type(row), type(places), len(places)), (list, tuple, len(happenings)))
        self.assertEqual(paper[0][0], [])
        self.assertTrue(holds_by_hand(play, other, happenings, paper))
        self.assertIs(shows_alike(play, other, happenings, paper), True)
        self.assertIs(shows_alike(play, other, happenings, alike_paper(play, other, happenings, **more)), True)
        return paper

    def test_plays_that_are_the_same(self):
        self.expect_paper(STILL, STILL, [UP], 1)
        self.assertEqual(alike_paper(STILL, STILL, [UP, DOWN, TURN, FLAG]), [([], (0, 0, 0, 0))])
        self.expect_paper(WAITS, WAITS, [UP], 3)
        self.expect_paper(WAITS, WAITS, [UP, TURN, TOUCH, FLAG], 3)

    def test_plays_that_are_alike_though_they_differ(self):
        self.expect_paper(STEPS, STILL, [UP, DOWN], 3)
        self.expect_paper(STILL, STEPS, [DOWN, UP, TOUCH], 3)
        self.expect_paper(cycle(3), cycle(4), [UP], 12)
        self.expect_paper(WAITS, cycle(2), [UP, TURN], 6)
        moves = [play_of(figure("cat", script("touch", *deeds)))
                 for deeds in ((("move", 2),), (("move", 1), ("move", 1)), (("place", ("plus", 2, ("x",)), ("y",)),))]
        for other in moves:
            self.expect_paper(moves[0], other, [TOUCH, TURN], 3)

    def test_none_where_they_are_parted(self):
        for many in (1, 2, 5):
            self.assertIsNone(alike_paper(says_at(many), counter(), [UP, DOWN]))
        late = play_of(figure("cat", script("flag", ("wait", 1), ("say", 1))))
        self.assertIsNone(alike_paper(late, STILL, [FLAG, TURN]))
        self.assertIsNone(alike_paper(STILL, play_of(figure("dog")), [TURN]))

    def test_as_many_pairs_as_most_and_one_more(self):
        for many in (1, 2, 60, 100):
            self.expect_paper(cycle(many), STILL, [UP], many, most=many)
            if many > 1:
                self.expect_refused(cycle(many), STILL, most=many - 1)
        self.expect_paper(cycle(60), STILL, [UP], 60)
        self.expect_refused(cycle(61), STILL)

    def expect_refused(self, play, other, **more):
        with self.assertRaises(TooMany) as caught:
            alike_paper(play, other, [UP], **more)
        self.assertEqual(caught.exception.most, more.get("most", 60))

    def test_too_many_ahead_of_and_behind_a_row_that_parts(self):
        self.assertIsNone(alike_paper(says_at(5), counter(), [UP], most=5))
        self.expect_refused(says_at(5), counter(), most=4)
        self.assertIsNone(alike_paper(says_at(1), counter(), [UP], most=1))

    def test_a_paper_where_nothing_parts_them_and_none_elsewhere(self):
        kinds = set()
        for seed in range(40):
            maker = Maker(seed)
            play = maker.play()
            happenings = [TURN, FLAG, UP, ("news", "tea")][:maker.one_of(1, 2, 3)]
            for other in (play, *variants(maker, play, 2)):
                kinds.add(self.compare(play, other, happenings))
        self.assertEqual(kinds, {"many", "row", "paper"})

    def compare(self, play, other, happenings):
        try:
            row = parted(play, other, happenings, most=20)
        except TooMany:
            with self.assertRaises(TooMany):
                alike_paper(play, other, happenings, most=20)
            return "many"
        paper = alike_paper(play, other, happenings, most=20)
        self.assertEqual(paper is None, row is not None)
        if paper is None:
            return "row"
        self.assertIs(shows_alike(play, other, happenings, paper), True)
        self.assertTrue(holds_by_hand(play, other, happenings, paper))
        return "paper"


class ShowsAlike(unittest.TestCase):
    def expect(self, thing, wanted, plays=(STEPS, STILL), happenings=(UP, DOWN)):
        with self.subTest(thing=thing):
            self.assertIs(shows_alike(*plays, happenings, thing), wanted)

    def test_a_paper(self):
        self.expect(PAPER, True)
        self.expect(PAPER, True, plays=(STEPS, STEPS))
        self.expect(PAPER, True, plays=(STILL, STEPS))

    def test_other_rows_of_the_same_states(self):
        self.expect([([], (1, 0)), ([DOWN, UP], (2, 0)), ([UP, UP, UP, DOWN, UP], (2, 1))], True)
        self.expect([([], (2, 0)), ([UP, UP], (1, 2)), ([UP], (1, 0))], True)
        # A pair may stand there more than once, and lead to either.
        self.expect([([], (1, 3)), ([UP], (2, 0)), ([UP, UP], (2, 4)), ([DOWN], (4, 0)), ([DOWN, UP], (2, 3))], True)

    def test_a_place_that_is_wrong(self):
        for place in places_in(PAPER):
            part = part_at(PAPER, place)
            if isinstance(part, int):
                for wrong in (-1, 0, 1, 2, 3, 10 ** 9):
                    self.expect(with_part(PAPER, place, wrong), wrong == part)
                for wrong in (True, False, None, "0", (part,), [part]):
                    self.expect(with_part(PAPER, place, wrong), False)

    def test_places_for_each_of_the_happenings(self):
        for places in ((), (1,), (1, 0, 0), (0, 1), [1, 0], None, "10"):
            self.expect(with_part(PAPER, (0, 1), places), False)
        self.expect([([], ())], False, happenings=[UP], plays=(STILL, STILL))
        self.expect([([], (0,))], True, happenings=[UP], plays=(STILL, STILL))
        # They stand in the order of the happenings.
        self.expect(PAPER, False, happenings=[DOWN, UP])
        self.expect([([], (0, 1)), ([UP], (0, 2)), ([UP, UP], (1, 2))], True, happenings=[DOWN, UP])

    def test_a_row_too_few(self):
        for many in range(len(PAPER)):
            self.expect(PAPER[:many], False)
        self.expect([([], (1, 0)), ([UP], (1, 0))], False)
        self.expect([([], (1, 0)), ([UP, UP], (1, 0))], False)

    def test_the_first_row_is_bare(self):
        self.expect(PAPER[1:] + PAPER[:1], False)
        self.expect([([UP], (2, 1)), ([], (0, 1)), ([UP, UP], (2, 0))], False)
        self.expect([([], (0,))], True, plays=(STILL, STILL), happenings=[UP])
        self.expect([([UP], (0,))], False, plays=(STILL, STILL), happenings=[UP])
        self.expect([([DOWN], (1, 0)), *PAPER[1:]], False)

    def test_a_row_that_is_another_one(self):
        for row in ([UP, UP], [], [DOWN], [UP, DOWN]):
            self.expect(with_part(PAPER, (1, 0), row), False)

    def test_both_states_count(self):
        # One of both plays comes to the same state, the other one doesn't.
        loop = [([], (0,))]
        self.expect(loop, False, plays=(cycle(2), STILL), happenings=[UP])
        self.expect(loop, False, plays=(STILL, cycle(2)), happenings=[UP])
        self.expect([([], (1,)), ([UP], (0,))], True, plays=(STILL, cycle(2)), happenings=[UP])
        self.expect([([], (1,)), ([UP], (0,))], True, plays=(cycle(2), STILL), happenings=[UP])
        self.expect([([], (1,)), ([UP], (0,))], False, plays=(cycle(2), cycle(4)), happenings=[UP])

    def test_they_must_be_seen_alike_behind_each_row_and_each_happening_more(self):
        # By UP they come back to their first states, but one of them has said something.
        plays = (play_of(figure("cat", script("key up", ("say", 1)))), STILL)
        self.expect([([], (0, 0))], False, plays=plays)
        self.expect([([], (0,))], True, plays=plays, happenings=[DOWN])
        # A place that DOWN leads to by itself is reached by rows that part them.
        self.expect([([], (1,)), ([UP], (1,))], False, plays=plays, happenings=[DOWN])
        self.expect([([], (1, 1)), ([UP, DOWN], (1, 1))], False, plays=plays)
        far = (play_of(figure("cat", script("key up", ("move", 1)), script("key down", ("place", 0, 0)))), STILL)
        self.expect([([], (0,)), ([UP, DOWN], (0,))], False, plays=far, happenings=[DOWN])
        self.expect([([], (0,))], True, plays=far, happenings=[DOWN])

    def test_rows_with_a_turn_that_parts_in_their_midst(self):
        plays = (play_of(figure("cat", script("key up", ("say", 1)))), STILL)
        for row in ([UP, DOWN], [UP, DOWN, DOWN], [DOWN, UP, DOWN]):
            self.expect([([], (0, 1)), (row, (0, 1))], False, plays=plays, happenings=[DOWN, UP])
        for row in ([DOWN], [DOWN, TURN], []):
            self.expect([([], (0, 1)), (row, (0, 1))], True, plays=plays, happenings=[DOWN, TURN])

    def test_one_to_a_hundred_pairs(self):
        pair = ([], (0,))
        for many, wanted in ((0, False), (1, True), (2, True), (99, True), (100, True), (101, False), (200, False)):
            self.expect([pair] * many, wanted, plays=(STILL, STILL), happenings=[TURN])
        paper = alike_paper(cycle(100), STILL, [UP], most=100)
        self.expect(paper, True, plays=(cycle(100), STILL), happenings=[UP])
        self.expect([*paper, paper[-1]], False, plays=(cycle(100), STILL), happenings=[UP])

    def test_rows_of_these_happenings_alone(self):
        self.expect([([], (1, 0)), ([UP], (2, 0)), ([UP, UP], (2, 1)), ([TURN], (1, 0))], False)
        self.expect([([], (1, 0)), ([UP], (2, 0)), ([UP, UP], (2, 1)), ([("key", "left")], (1, 0))], False)
        touch = [([], (0,)), ([TOUCH], (0,))]
        self.expect(touch, True, plays=(STILL, STILL), happenings=[TOUCH])
        self.expect([([], (0,)), ([("touch", "cat", False)], (0,))], False, plays=(STILL, STILL), happenings=[TOUCH])

    def test_kind_by_kind(self):
        self.expect(as_tuples(PAPER), False)
        self.expect(as_lists(as_tuples(PAPER)), False)
        for place in places_in(PAPER):
            part = part_at(PAPER, place)
            if isinstance(part, tuple):
                self.expect(with_part(PAPER, place, list(part)), False)
            elif isinstance(part, list):
                self.expect(with_part(PAPER, place, tuple(part)), False)

    def test_things_of_any_kind(self):
        for thing in NO_PART + [(), [], {}]:
            self.expect(thing, False)
            self.expect([thing], False)
            self.expect([*PAPER, thing], False)
            self.expect([thing, *PAPER], False)
            self.expect([([], thing)], False)
            self.expect([(thing, (0, 0))], False)
        for place in places_in(PAPER):
            for wrong in (None, "", "left", True, 7, (0, 0), ((), ()), ([], ()), ([], (0, 0), 0), [[], (0, 0)], (UP,)):
                self.expect(with_part(PAPER, place, wrong), False)

    def test_very_deep_and_very_many(self):
        deep = []
        for _ in range(27):
            deep = [deep]
        self.expect(deep, False)
        self.expect([(deep, (0, 0))], False)
        self.expect([1] * 2900, False)
        self.expect([([], (0,)), ([TURN] * 1400, (0,))], True, plays=(STILL, STILL), happenings=[TURN])


class HandedIn(unittest.TestCase):
    def test_lists_for_tuples_and_tuples_for_lists(self):
        for happenings in ([UP, DOWN], (UP, DOWN), as_lists((UP, DOWN))):
            paper = alike_paper(STEPS, STILL, happenings)
            self.assertEqual(paper, alike_paper(STEPS, STILL, [UP, DOWN]))
            self.assertIs(type(paper[1][0][0]), tuple)
            self.assertIs(shows_alike(STEPS, STILL, happenings, PAPER), True)
            self.assertIs(shows_alike(STEPS, STILL, happenings, PAPER[:2]), False)
        self.assertIsNone(alike_paper(says_at(2), counter(), as_lists((UP,))))

    def test_plays_of_lists_are_taken_too(self):
        plays = (as_lists(STEPS), as_lists(STILL))
        self.assertEqual(alike_paper(*plays, [UP, DOWN]), alike_paper(STEPS, STILL, [UP, DOWN]))
        self.assertIs(shows_alike(*plays, [UP, DOWN], PAPER), True)
        self.assertIs(shows_alike(*plays, [UP, DOWN], PAPER[:2]), False)

    def test_nothing_is_changed_and_told_lists_are_the_askers_own(self):
        happenings = [list(UP), list(DOWN)]
        paper = alike_paper(STEPS, STILL, happenings)
        self.assertEqual(happenings, [["key", "up"], ["key", "down"]])
        again = alike_paper(STEPS, STILL, happenings)
        self.assertEqual(again, paper)
        found = lists_within([paper, again])
        self.assertEqual(len({id(row) for row in found}), len(found))
        change_all_lists(again)
        happenings[0].append("changed")
        self.assertEqual(alike_paper(STEPS, STILL, [UP, DOWN]), paper)
        thing = [([], (1, 0)), ([UP], (2, 0)), ([UP, UP], (2, 1))]
        self.assertIs(shows_alike(STEPS, STILL, [UP, DOWN], thing), True)
        self.assertEqual(thing, PAPER)

    def test_by_names(self):
        self.assertEqual(alike_paper(happenings=[UP], other=STILL, play=STILL, most=1), [([], (0,))])
        self.assertIs(shows_alike(thing=[([], (0,))], happenings=[UP], other=STILL, play=STILL), True)


if __name__ == "__main__":
    unittest.main()
