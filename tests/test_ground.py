import inspect
import unittest

from figuredeeds.ground import Ground
from tests.plays_at_hand import CAT, DOG, OWL, PLAY, as_lists, as_tuples, change_all_lists, lists_within

CAT_ONE = ("cat", 0)
DOG_ONE = ("dog", 0)
OWL_ONE = ("owl", 0)


def with_figures(*figures):
    return (PLAY[0], PLAY[1], PLAY[2], figures)


def all_told(ground):
    """What a ground tells, each question once."""
    ones = ground.ones()
    told = [ones, ground.names(), ground.lists(), len(ground)]
    for one in ones:
        told.append((ground.spot(one), ground.is_shown(one), ground.met(one), ground.eyes(one),
                     ground.names(one=one), ground.lists(one=one)))
    return told


class AtFirst(unittest.TestCase):
    def test_each_figures_own_one(self):
        ground = Ground(PLAY)
        self.assertEqual(ground.ones(), [CAT_ONE, DOG_ONE, OWL_ONE])
        self.assertEqual(len(ground), 3)

    def test_in_the_plays_order_not_by_letters(self):
        self.assertEqual(Ground(with_figures(OWL, CAT, DOG)).ones(), [OWL_ONE, CAT_ONE, DOG_ONE])

    def test_at_its_place_shown(self):
        ground = Ground(PLAY)
        self.assertEqual([ground.spot(one) for one in ground.ones()], [(1, 2, 0), (3, 0, 1), (1, 2, 3)])
        for one in ground.ones():
            self.assertIs(ground.is_shown(one), True)

    def test_names(self):
        ground = Ground(PLAY)
        self.assertEqual(ground.names(), [("score", 100), ("speed", 2)])
        self.assertEqual(ground.names(one=None), [("score", 100), ("speed", 2)])
        self.assertEqual(ground.names(one=CAT_ONE), [("score", 5), ("top", 1000000)])
        self.assertEqual(ground.names(one=DOG_ONE), [])
        self.assertEqual(ground.names(one=OWL_ONE), [("score", -7)])

    def test_lists(self):
        ground = Ground(PLAY)
        self.assertEqual(ground.lists(), [("bag", [9]), ("shelf", [-1, 0, 1])])
        self.assertEqual(ground.lists(one=CAT_ONE), [("bag", [4, 5, 6])])
        self.assertEqual(ground.lists(one=DOG_ONE), [])
        self.assertEqual(ground.lists(one=OWL_ONE), [("bag", []), ("hoard", [1, 2, 3, 4, 5, 6, 7, 8])])

    def test_the_plays_order_stays_when_values_change(self):
        play = ((3, 3), (("z", 1), ("a", 2)), (("y", ()), ("b", ())), (DOG[:1] + ((0, 0, 0),) + DOG[2:],))
        ground = Ground(play)
        ground.do(DOG_ONE, ("set", "z", 9))
        ground.do(DOG_ONE, ("put", "y", 9))
        self.assertEqual(ground.names(), [("z", 9), ("a", 2)])
        self.assertEqual(ground.lists(), [("y", [9]), ("b", [])])

    def test_what_is_told_is_of_the_kinds_told(self):
        for play in (PLAY, as_lists(PLAY)):
            ground = Ground(play)
            names, lists, spot, met = ground.eyes(["cat", 0], params=[["far", 1]])
            for row in (ground.ones(), ground.names(), ground.lists(), ground.met(CAT_ONE), names, lists, met):
                self.assertIs(type(row), list)
            for pair in ground.ones() + ground.names() + ground.lists() + names + lists:
                self.assertIs(type(pair), tuple)
            for _, row in ground.lists() + lists:
                self.assertIs(type(row), list)
            for told in (ground.spot(CAT_ONE), ground.eyes(CAT_ONE), spot, ground.copy(["cat", 0])):
                self.assertIs(type(told), tuple)


class Met(unittest.TestCase):
    def test_another_at_the_same_spot_whatever_its_way(self):
        ground = Ground(PLAY)
        self.assertEqual(ground.met(CAT_ONE), ["owl"])
        self.assertEqual(ground.met(OWL_ONE), ["cat"])
        self.assertEqual(ground.met(DOG_ONE), [])

    def test_both_x_and_y_count(self):
        ground = Ground(PLAY)
        for x, y in ((1, 0), (0, 2), (2, 1), (4, 3)):
            ground.do(DOG_ONE, ("place", x, y))
            self.assertEqual(ground.met(DOG_ONE), [])
        ground.do(DOG_ONE, ("place", 1, 2))
        self.assertEqual(ground.met(DOG_ONE), ["cat", "owl"])

    def test_figures_in_order_each_once(self):
        ground = Ground(with_figures(OWL, DOG, CAT))
        for one in (DOG_ONE, CAT_ONE, OWL_ONE):
            ground.do(one, ("place", 0, 0))
        ground.copy(OWL_ONE)
        ground.copy(OWL_ONE)
        self.assertEqual(ground.met(CAT_ONE), ["owl", "dog"])
        self.assertEqual(ground.met(DOG_ONE), ["owl", "cat"])

    def test_its_own_figure_where_another_one_of_it_stands_there(self):
        ground = Ground(PLAY)
        copy = ground.copy(DOG_ONE)
        self.assertEqual(ground.met(DOG_ONE), ["dog"])
        self.assertEqual(ground.met(copy), ["dog"])
        ground.do(copy, ("move", 1))
        self.assertEqual(ground.met(DOG_ONE), [])

    def test_who_is_hidden_meets_none_and_is_met_by_none(self):
        ground = Ground(PLAY)
        ground.do(OWL_ONE, ("hide",))
        self.assertEqual(ground.met(OWL_ONE), [])
        self.assertEqual(ground.met(CAT_ONE), [])
        ground.do(OWL_ONE, ("show",))
        self.assertEqual(ground.met(OWL_ONE), ["cat"])
        self.assertEqual(ground.met(CAT_ONE), ["owl"])

    def test_one_shown_of_several_is_enough(self):
        ground = Ground(PLAY)
        ground.copy(OWL_ONE)
        ground.do(OWL_ONE, ("hide",))
        self.assertEqual(ground.met(CAT_ONE), ["owl"])
        self.assertEqual(ground.met(("owl", 1)), ["cat"])


class Eyes(unittest.TestCase):
    def test_own_ahead_of_those_of_all(self):
        names, lists, spot, met = Ground(PLAY).eyes(CAT_ONE)
        self.assertEqual(names, [("score", 5), ("top", 1000000), ("score", 100), ("speed", 2)])
        self.assertEqual(lists, [("bag", [4, 5, 6]), ("bag", [9]), ("shelf", [-1, 0, 1])])
        self.assertEqual(spot, (1, 2, 0, 0))
        self.assertEqual(met, ["owl"])

    def test_params_ahead_of_both_alike_ones_too(self):
        params = [("score", 1), ("far", 2), ("score", 3), ("far", 2)]
        names = Ground(PLAY).eyes(CAT_ONE, params=params)[0]
        self.assertEqual(names[:4], params)
        self.assertEqual(names[4:], [("score", 5), ("top", 1000000), ("score", 100), ("speed", 2)])

    def test_params_of_lists_are_told_as_pairs(self):
        names = Ground(PLAY).eyes(DOG_ONE, params=[["far", 2]])[0]
        self.assertEqual(names[0], ("far", 2))

    def test_a_copys_number(self):
        ground = Ground(PLAY)
        ground.copy(DOG_ONE)
        copy = ground.copy(DOG_ONE)
        self.assertEqual(ground.eyes(copy)[2], (3, 0, 1, 2))
        self.assertEqual(ground.eyes(list(copy))[2], (3, 0, 1, 2))

    def test_as_it_is_then(self):
        ground = Ground(PLAY)
        before = ground.eyes(CAT_ONE)
        ground.do(CAT_ONE, ("set", "score", 6))
        ground.do(CAT_ONE, ("put", "bag", 7))
        ground.do(CAT_ONE, ("move", 1))
        names, lists, spot, met = ground.eyes(CAT_ONE)
        self.assertEqual(names[0], ("score", 6))
        self.assertEqual(lists[0], ("bag", [4, 5, 6, 7]))
        self.assertEqual((spot, met), ((2, 2, 0, 0), []))
        self.assertEqual(before[0][0], ("score", 5))
        self.assertEqual(before[1][0], ("bag", [4, 5, 6]))


class Copies(unittest.TestCase):
    def test_a_copy_is_as_its_one_is_then(self):
        ground = Ground(PLAY)
        for deed in (("move", 2), ("turn", 1), ("hide",), ("set", "score", 8), ("drop", "bag", 0)):
            ground.do(CAT_ONE, deed)
        copy = ground.copy(CAT_ONE)
        self.assertEqual(copy, ("cat", 1))
        self.assertEqual(ground.spot(copy), (3, 2, 1))
        self.assertIs(ground.is_shown(copy), False)
        self.assertEqual(ground.names(one=copy), [("score", 8), ("top", 1000000)])
        self.assertEqual(ground.lists(one=copy), [("bag", [5, 6])])

    def test_each_goes_on_by_itself(self):
        ground = Ground(PLAY)
        copy = ground.copy(CAT_ONE)
        first = ground.eyes(CAT_ONE)
        for deed in (("move", 2), ("turn", 1), ("hide",), ("set", "score", 8), ("drop", "bag", 0), ("put", "bag", 3),
                     ("write", "bag", 0, 77)):
            ground.do(copy, deed)
        # The owl stands there still, the copy doesn't.
        self.assertEqual(ground.eyes(CAT_ONE)[:3], first[:3])
        self.assertIs(ground.is_shown(CAT_ONE), True)
        self.assertEqual(ground.lists(one=copy), [("bag", [77, 6, 3])])

    def test_names_of_all_are_shared(self):
        ground = Ground(PLAY)
        copy = ground.copy(CAT_ONE)
        ground.do(copy, ("set", "speed", 9))
        ground.do(copy, ("put", "shelf", 9))
        self.assertEqual(ground.names(), [("score", 100), ("speed", 9)])
        self.assertEqual(ground.eyes(CAT_ONE)[1][-1], ("shelf", [-1, 0, 1, 9]))

    def test_a_copy_of_a_copy(self):
        ground = Ground(PLAY)
        copy = ground.copy(CAT_ONE)
        ground.do(copy, ("set", "score", 8))
        again = ground.copy(copy)
        self.assertEqual(again, ("cat", 2))
        self.assertEqual(ground.names(one=again)[0], ("score", 8))

    def test_the_least_number_that_is_free_in_that_figure(self):
        ground = Ground(PLAY)
        self.assertEqual([ground.copy(CAT_ONE) for _ in range(4)], [("cat", at) for at in (1, 2, 3, 4)])
        self.assertEqual(ground.copy(OWL_ONE), ("owl", 1))
        ground.end(("cat", 3))
        ground.end(("cat", 1))
        self.assertEqual(ground.copy(("cat", 4)), ("cat", 1))
        self.assertEqual(ground.copy(CAT_ONE), ("cat", 3))
        self.assertEqual(ground.copy(CAT_ONE), ("cat", 5))

    def test_ones_figures_in_order_numbers_rising(self):
        ground = Ground(PLAY)
        for one in (OWL_ONE, CAT_ONE, DOG_ONE, CAT_ONE, CAT_ONE):
            ground.copy(one)
        ground.end(("cat", 1))
        ground.copy(CAT_ONE)
        self.assertEqual(ground.ones(), [("cat", 0), ("cat", 1), ("cat", 2), ("cat", 3), ("dog", 0), ("dog", 1),
                                         ("owl", 0), ("owl", 1)])
        self.assertEqual(len(ground), 8)

    def test_twelve_copies(self):
        ground = Ground(PLAY)
        self.assertEqual([ground.copy(DOG_ONE) for _ in range(12)], [("dog", at) for at in range(1, 13)])
        self.assertEqual(len(ground), 15)
        self.assertEqual(ground.ones()[1:14], [("dog", at) for at in range(13)])
        ground.end(("dog", 10))
        self.assertEqual(ground.copy(DOG_ONE), ("dog", 10))

    def test_more_copies_are_no_error(self):
        ground = Ground(PLAY)
        copies = [ground.copy(one) for one in (CAT_ONE, DOG_ONE, OWL_ONE) for _ in range(5)]
        self.assertEqual(len(ground), 3 + len(copies))

    def test_an_ended_copy_leaves_nothing(self):
        ground = Ground(PLAY)
        before = all_told(ground)
        copy = ground.copy(CAT_ONE)
        ground.do(copy, ("set", "score", 8))
        ground.do(copy, ("put", "bag", 8))
        self.assertIsNone(ground.end(copy))
        self.assertEqual(all_told(ground), before)
        self.assertEqual(ground, Ground(PLAY))
        self.assertEqual(ground.copy(CAT_ONE), copy)
        self.assertEqual(ground.names(one=copy), [("score", 5), ("top", 1000000)])
        self.assertEqual(ground.lists(one=copy), [("bag", [4, 5, 6])])


class Twins(unittest.TestCase):
    def worked(self):
        ground = Ground(PLAY)
        for one, deed in ((CAT_ONE, ("move", 1)), (DOG_ONE, ("hide",)), (CAT_ONE, ("add", "speed", 3)),
                          (OWL_ONE, ("put", "bag", 3))):
            ground.do(one, deed)
        ground.copy(CAT_ONE)
        ground.copy(CAT_ONE)
        ground.end(("cat", 1))
        return ground

    def test_a_twin_is_the_same(self):
        ground = self.worked()
        twin = ground.twin()
        self.assertIsInstance(twin, Ground)
        self.assertIsNot(twin, ground)
        self.assertTrue(twin == ground)
        self.assertFalse(twin != ground)
        self.assertEqual(all_told(twin), all_told(ground))
        self.assertEqual(twin.copy(CAT_ONE), ground.copy(CAT_ONE))

    def test_twins_go_on_by_themselves(self):
        deeds = (("move", 1), ("turn", 1), ("hide",), ("set", "score", 9), ("set", "speed", 9), ("put", "bag", 1),
                 ("put", "shelf", 1), ("drop", "bag", 0), ("write", "shelf", 0, 4))
        for deed in deeds:
            for changed_first in (True, False):
                ground = self.worked()
                before = all_told(ground)
                twin = ground.twin()
                changed, other = (twin, ground) if changed_first else (ground, twin)
                changed.do(("cat", 2), deed)
                with self.subTest(deed=deed):
                    self.assertEqual(all_told(other), before)
                    self.assertNotEqual(changed, other)
                    other.do(("cat", 2), deed)
                    self.assertEqual(changed, other)

    def test_twins_copy_and_end_by_themselves(self):
        ground = self.worked()
        before = all_told(ground)
        twin = ground.twin()
        twin.copy(DOG_ONE)
        twin.end(("cat", 2))
        self.assertEqual(all_told(ground), before)
        again = ground.twin()
        ground.end(("cat", 2))
        self.assertEqual(all_told(again), before)

    def test_a_twins_ground_has_the_same_edges(self):
        twin = Ground(PLAY).twin()
        twin.do(CAT_ONE, ("place", 99, 99))
        self.assertEqual(twin.spot(CAT_ONE), (4, 3, 0))


class Alike(unittest.TestCase):
    def test_two_of_one_play(self):
        self.assertTrue(Ground(PLAY) == Ground(PLAY))
        self.assertTrue(Ground(PLAY) == Ground(as_lists(PLAY)))
        self.assertFalse(Ground(PLAY) != Ground(PLAY))

    def test_what_parts_them(self):
        size, names, lists, _ = PLAY
        others = [
            ((6, 4), names, lists, PLAY[3]),
            ((5, 5), names, lists, PLAY[3]),
            (size, names[:1], lists, PLAY[3]),
            (size, names[::-1], lists, PLAY[3]),
            (size, (("score", 100), ("speed", 3)), lists, PLAY[3]),
            (size, names, lists[:1], PLAY[3]),
            (size, names, lists[::-1], PLAY[3]),
            (size, names, (("bag", (9,)), ("shelf", (-1, 0, 2))), PLAY[3]),
            with_figures(CAT, DOG),
            with_figures(DOG, CAT, OWL),
            with_figures(CAT, ("dogs",) + DOG[1:], OWL),
            with_figures(CAT, DOG[:1] + ((3, 0, 2),) + DOG[2:], OWL),
            with_figures(CAT, DOG[:1] + ((2, 0, 1),) + DOG[2:], OWL),
            with_figures(CAT, DOG[:1] + ((3, 1, 1),) + DOG[2:], OWL),
            with_figures(CAT[:2] + ((("score", 6), ("top", 1000000)),) + CAT[3:], DOG, OWL),
            with_figures(CAT[:3] + ((("bag", (4, 5, 7)),),) + CAT[4:], DOG, OWL),
            with_figures(CAT[:3] + ((("bags", (4, 5, 6)),),) + CAT[4:], DOG, OWL),
        ]
        for play in others:
            with self.subTest(play=play):
                self.assertFalse(Ground(PLAY) == Ground(play))
                self.assertTrue(Ground(PLAY) != Ground(play))

    def test_who_is_shown_and_who_is_there_part_them(self):
        hidden = Ground(PLAY)
        hidden.do(DOG_ONE, ("hide",))
        self.assertNotEqual(hidden, Ground(PLAY))
        copied = Ground(PLAY)
        copied.copy(DOG_ONE)
        self.assertNotEqual(copied, Ground(PLAY))
        other = Ground(PLAY)
        other.copy(DOG_ONE)
        other.copy(DOG_ONE)
        other.end(("dog", 1))
        self.assertEqual(len(other), len(copied))
        self.assertNotEqual(copied, other)

    def test_scripts_and_pieces_do_not_part_them(self):
        self.assertEqual(Ground(with_figures(CAT[:4] + ((), ()), DOG, OWL)), Ground(PLAY))

    def test_the_way_there_does_not_part_them(self):
        first, second = Ground(PLAY), Ground(PLAY)
        first.copy(OWL_ONE)
        first.copy(CAT_ONE)
        second.copy(CAT_ONE)
        second.copy(OWL_ONE)
        self.assertEqual(first, second)

    def test_nothing_else_is_like_a_ground(self):
        for thing in (None, 3, "ground", PLAY, [], Ground):
            self.assertFalse(Ground(PLAY) == thing)
            self.assertTrue(Ground(PLAY) != thing)


class HandedInAndTold(unittest.TestCase):
    def test_a_play_of_lists(self):
        ground, other = Ground(PLAY), Ground(as_lists(PLAY))
        self.assertEqual(all_told(other), all_told(ground))
        self.assertEqual(other.copy(["cat", 0]), ("cat", 1))

    def test_ones_as_lists(self):
        ground = Ground(PLAY)
        for one in (CAT_ONE, DOG_ONE, OWL_ONE):
            as_list = list(one)
            self.assertEqual(ground.spot(as_list), ground.spot(one))
            self.assertIs(ground.is_shown(as_list), True)
            self.assertEqual(ground.names(one=as_list), ground.names(one=one))
            self.assertEqual(ground.lists(one=as_list), ground.lists(one=one))
            self.assertEqual(ground.met(as_list), ground.met(one))
            self.assertEqual(ground.eyes(as_list), ground.eyes(one))
            ground.end(list(ground.copy(as_list)))
            self.assertEqual(as_list, list(one))
        self.assertEqual(ground, Ground(PLAY))

    def test_a_play_is_neither_changed_nor_kept(self):
        play = as_lists(PLAY)
        ground = Ground(play)
        ground.do(CAT_ONE, ("set", "score", 1))
        ground.do(CAT_ONE, ("set", "speed", 1))
        ground.do(CAT_ONE, ("put", "bag", 1))
        ground.do(CAT_ONE, ("put", "shelf", 1))
        ground.do(CAT_ONE, ("move", 1))
        self.assertEqual(as_tuples(play), PLAY)
        before = all_told(ground)
        change_all_lists(play)
        self.assertEqual(all_told(ground), before)

    def test_changed_values_of_a_handed_play_do_not_count(self):
        play = as_lists(PLAY)
        ground = Ground(play)
        before = all_told(ground)
        play[0][0] = 1
        play[1][0][1] = 7
        play[2][0][1][0] = 7
        play[3][0][1][0] = 0
        play[3][0][2][0][1] = 7
        play[3][0][3][0][1][0] = 7
        play[3][1][0] = "cow"
        self.assertEqual(all_told(ground), before)
        self.assertEqual(ground, Ground(PLAY))

    def test_params_are_neither_changed_nor_kept(self):
        params = [["far", 1], ["score", 2]]
        told = Ground(PLAY).eyes(CAT_ONE, params=params)
        self.assertEqual(params, [["far", 1], ["score", 2]])
        params[0][1] = 9
        params.append(["near", 3])
        self.assertEqual(told[0][:3], [("far", 1), ("score", 2), ("score", 5)])

    def test_told_lists_are_the_askers_own(self):
        ground = Ground(PLAY)
        ground.copy(CAT_ONE)
        before = all_told(ground)
        told = all_told(ground)
        change_all_lists(told)
        self.assertEqual(all_told(ground), before)
        self.assertEqual(all_told(ground), before)

    def test_no_two_told_lists_are_the_same(self):
        ground = Ground(PLAY)
        ground.copy(OWL_ONE)
        told = [all_told(ground), all_told(ground), ground.eyes(DOG_ONE), ground.twin().eyes(DOG_ONE)]
        found = lists_within(told)
        self.assertEqual(len({id(row) for row in found}), len(found))

    def test_what_was_told_may_be_handed_in(self):
        ground = Ground(PLAY)
        names = ground.eyes(CAT_ONE)[0]
        for _ in range(4):
            names = ground.eyes(CAT_ONE, params=names)[0]
        self.assertEqual(len(names), 20)
        self.assertEqual(ground.do(CAT_ONE, ("say", ("name", "speed")), params=names), 2)

    def test_by_names(self):
        ground = Ground(play=PLAY)
        self.assertEqual(ground.spot(one=CAT_ONE), (1, 2, 0))
        self.assertIs(ground.is_shown(one=CAT_ONE), True)
        self.assertEqual(ground.met(one=CAT_ONE), ["owl"])
        self.assertEqual(ground.eyes(params=(), one=CAT_ONE), ground.eyes(CAT_ONE))
        self.assertEqual(ground.copy(one=CAT_ONE), ("cat", 1))
        self.assertIsNone(ground.end(one=("cat", 1)))
        self.assertEqual(ground.do(params=(), deed=("say", 3), one=CAT_ONE), 3)

    def test_by_names_alone_behind_the_star(self):
        ground = Ground(PLAY)
        for ask in (lambda: ground.names(CAT_ONE), lambda: ground.lists(CAT_ONE), lambda: ground.eyes(CAT_ONE, ()),
                    lambda: ground.do(CAT_ONE, ("show",), ())):
            with self.assertRaises(TypeError):
                ask()

    def test_all_stands_in_the_class_itself(self):
        wanted = {
            "ones": "(self)", "spot": "(self, one)", "is_shown": "(self, one)", "names": "(self, *, one=None)",
            "lists": "(self, *, one=None)", "met": "(self, one)", "eyes": "(self, one, *, params=())",
            "copy": "(self, one)", "end": "(self, one)", "twin": "(self)",
            "do": "(self, one, deed, *, params=())",
        }
        for name, signature in wanted.items():
            self.assertEqual(str(inspect.signature(vars(Ground)[name])), signature)
        self.assertIn("__len__", vars(Ground))
        self.assertIn("__eq__", vars(Ground))
        self.assertEqual(Ground.__module__, "figuredeeds.ground")


if __name__ == "__main__":
    unittest.main()
