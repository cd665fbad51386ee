import itertools
import unittest

from figuredeeds.errors import Fell
from figuredeeds.ground import Ground
from tests.plays_at_hand import PLAY, as_lists

CAT_ONE = ("cat", 0)
DOG_ONE = ("dog", 0)
OWL_ONE = ("owl", 0)
MOST = 1000000
FALLING = (("none", ("name", "missing")), ("nought", ("rest", 1, 0)), ("far", ("by", MOST, 2)))


class Deeds(unittest.TestCase):
    def setUp(self):
        self.ground = Ground(PLAY)

    def does(self, one, deed, params=()):
        self.assertIsNone(self.ground.do(one, deed, params=params))

    def falls(self, word, one, deed, params=()):
        before = self.ground.twin()
        with self.subTest(deed=deed):
            with self.assertRaises(Fell) as caught:
                self.ground.do(one, deed, params=params)
            self.assertEqual(caught.exception.word, word)
            self.assertEqual(self.ground, before)
            self.assertEqual(self.ground.eyes(one), before.eyes(one))

    def name(self, name, one=None):
        return dict(self.ground.names(one=one))[name]

    def row(self, name, one=None):
        return dict(self.ground.lists(one=one))[name]


class Spots(Deeds):
    def put_at(self, x, y, way):
        self.ground.do(DOG_ONE, ("place", x, y))
        self.ground.do(DOG_ONE, ("turn", ("minus", way, ("way",))))
        self.assertEqual(self.ground.spot(DOG_ONE), (x, y, way))

    def test_move_each_way_forward_and_backward(self):
        for way, forward, backward in ((0, (3, 2), (1, 2)), (1, (2, 3), (2, 1)), (2, (1, 2), (3, 2)),
                                       (3, (2, 1), (2, 3))):
            self.put_at(2, 2, way)
            self.does(DOG_ONE, ("move", 1))
            self.assertEqual(self.ground.spot(DOG_ONE), (*forward, way))
            self.put_at(2, 2, way)
            self.does(DOG_ONE, ("move", -1))
            self.assertEqual(self.ground.spot(DOG_ONE), (*backward, way))
            self.put_at(2, 2, way)
            self.does(DOG_ONE, ("move", 0))
            self.assertEqual(self.ground.spot(DOG_ONE), (2, 2, way))

    def test_move_as_far_as_the_ground_goes(self):
        edges = {0: (4, 1), 1: (2, 3), 2: (0, 1), 3: (2, 0)}
        for way in range(4):
            for many in (9, MOST):
                self.put_at(2, 1, way)
                self.does(DOG_ONE, ("move", many))
                self.assertEqual(self.ground.spot(DOG_ONE), (*edges[way], way))
                self.does(DOG_ONE, ("move", 1))
                self.assertEqual(self.ground.spot(DOG_ONE), (*edges[way], way))
                self.put_at(2, 1, way)
                self.does(DOG_ONE, ("move", -many))
                self.assertEqual(self.ground.spot(DOG_ONE), (*edges[(way + 2) % 4], way))

    def test_move_onto_the_edge_and_one_beyond(self):
        for many, x in ((1, 3), (2, 4), (3, 4), (-1, 1), (-2, 0), (-3, 0)):
            self.put_at(2, 0, 0)
            self.does(DOG_ONE, ("move", many))
            self.assertEqual(self.ground.spot(DOG_ONE), (x, 0, 0))

    def test_a_ground_of_one_spot(self):
        self.ground = Ground(((1, 1), (), (), (("dog", (0, 0, 0), (), (), (), ()),)))
        for deed in (("move", 5), ("move", -5), ("turn", 1), ("move", 5), ("move", -5), ("place", 3, 3)):
            self.does(DOG_ONE, deed)
            self.assertEqual(self.ground.spot(DOG_ONE)[:2], (0, 0))

    def test_turn(self):
        for way, value in itertools.product(range(4), (-MOST, -9, -5, -4, -3, -1, 0, 1, 2, 3, 4, 7, MOST - 1, MOST)):
            self.put_at(1, 1, way)
            self.does(DOG_ONE, ("turn", value))
            self.assertEqual(self.ground.spot(DOG_ONE), (1, 1, (way + value) % 4))

    def test_place_the_nearest_that_the_ground_has(self):
        for x, y in itertools.product((-MOST, -1, 0, 2, 4, 5, MOST), (-MOST, -1, 0, 1, 3, 4, MOST)):
            self.does(DOG_ONE, ("place", x, y))
            self.assertEqual(self.ground.spot(DOG_ONE), (min(max(x, 0), 4), min(max(y, 0), 3), 1))

    def test_place_looks_by_the_spot_that_was(self):
        self.does(DOG_ONE, ("place", ("y",), ("x",)))
        self.assertEqual(self.ground.spot(DOG_ONE), (0, 3, 1))

    def test_show_and_hide(self):
        for deed, shown in ((("hide",), False), (("hide",), False), (("show",), True), (("show",), True)):
            self.does(CAT_ONE, deed)
            self.assertIs(self.ground.is_shown(CAT_ONE), shown)
            self.assertIs(self.ground.is_shown(OWL_ONE), True)
            self.assertEqual(self.ground.spot(CAT_ONE), (1, 2, 0))

    def test_who_is_hidden_moves_too(self):
        self.does(CAT_ONE, ("hide",))
        self.does(CAT_ONE, ("move", 1))
        self.assertEqual(self.ground.spot(CAT_ONE), (2, 2, 0))

    def test_only_this_one(self):
        copy = self.ground.copy(CAT_ONE)
        for deed in (("move", 1), ("turn", 1), ("place", 4, 0), ("hide",)):
            self.does(copy, deed)
        self.assertEqual(self.ground.spot(copy), (4, 0, 1))
        self.assertEqual([self.ground.spot(one) for one in (CAT_ONE, DOG_ONE, OWL_ONE)],
                         [(1, 2, 0), (3, 0, 1), (1, 2, 3)])
        self.assertIs(self.ground.is_shown(CAT_ONE), True)


class Say(Deeds):
    def test_the_value_is_told_and_nothing_changed(self):
        copy = self.ground.copy(CAT_ONE)
        before = self.ground.twin()
        for one, look, value in ((CAT_ONE, 7, 7), (CAT_ONE, -MOST, -MOST), (CAT_ONE, ("name", "score"), 5),
                                 (DOG_ONE, ("name", "score"), 100), (OWL_ONE, ("name", "score"), -7),
                                 (CAT_ONE, ("item", "bag", 2), 6), (DOG_ONE, ("item", "bag", 0), 9),
                                 (OWL_ONE, ("many", "bag"), 0), (OWL_ONE, ("way",), 3), (copy, ("number",), 1),
                                 (CAT_ONE, ("number",), 0), (copy, ("minus", ("x",), ("y",)), -1)):
            with self.subTest(one=one, look=look):
                self.assertEqual(self.ground.do(one, ("say", look)), value)
        self.assertEqual(self.ground, before)

    def test_params_ahead_of_own_names_and_of_those_of_all(self):
        params = (("score", 1), ("speed", 3), ("score", 4))
        self.assertEqual(self.ground.do(CAT_ONE, ("say", ("name", "score")), params=params), 1)
        self.assertEqual(self.ground.do(CAT_ONE, ("say", ("name", "speed")), params=params), 3)
        self.assertEqual(self.ground.do(CAT_ONE, ("say", ("name", "top")), params=params), MOST)
        self.assertEqual(self.ground.do(CAT_ONE, ("say", ("name", "score"))), 5)

    def test_falls_as_its_look(self):
        for word, look in FALLING:
            self.falls(word, CAT_ONE, ("say", look))


class Names(Deeds):
    def test_set_its_own_ahead_of_that_of_all(self):
        self.does(CAT_ONE, ("set", "score", 6))
        self.assertEqual((self.name("score", CAT_ONE), self.name("score", OWL_ONE), self.name("score")), (6, -7, 100))
        self.does(DOG_ONE, ("set", "score", 7))
        self.assertEqual((self.name("score", CAT_ONE), self.name("score", OWL_ONE), self.name("score")), (6, -7, 7))
        self.does(CAT_ONE, ("set", "speed", 8))
        self.assertEqual(self.ground.names(), [("score", 7), ("speed", 8)])
        self.assertEqual(self.ground.names(one=DOG_ONE), [])

    def test_add_its_own_ahead_of_that_of_all(self):
        self.does(CAT_ONE, ("add", "score", 6))
        self.does(OWL_ONE, ("add", "score", -3))
        self.does(DOG_ONE, ("add", "score", -1))
        self.does(DOG_ONE, ("add", "speed", ("name", "speed")))
        self.assertEqual((self.name("score", CAT_ONE), self.name("score", OWL_ONE), self.name("score")), (11, -10, 99))
        self.assertEqual(self.name("speed"), 4)

    def test_never_a_param(self):
        params = [("score", 50), ("speed", 60)]
        self.does(CAT_ONE, ("set", "score", ("plus", ("name", "score"), 1)), params)
        self.assertEqual((self.name("score", CAT_ONE), self.name("score")), (51, 100))
        self.does(CAT_ONE, ("add", "score", ("name", "score")), params)
        self.assertEqual((self.name("score", CAT_ONE), self.name("score")), (101, 100))
        self.does(CAT_ONE, ("add", "speed", ("name", "speed")), params)
        self.assertEqual(self.name("speed"), 62)
        self.assertEqual(params, [("score", 50), ("speed", 60)])

    def test_what_is_but_a_param_is_refused(self):
        for word in ("set", "add"):
            self.falls("none", CAT_ONE, (word, "far", 1), (("far", 2),))
            self.falls("none", CAT_ONE, (word, "bag", 1))

    def test_set_to_the_bounds(self):
        for value in (MOST, -MOST):
            self.does(CAT_ONE, ("set", "score", value))
            self.assertEqual(self.name("score", CAT_ONE), value)

    def test_add_up_to_the_bounds_and_no_further(self):
        self.does(CAT_ONE, ("set", "score", MOST - 1))
        self.does(CAT_ONE, ("add", "score", 1))
        self.assertEqual(self.name("score", CAT_ONE), MOST)
        self.falls("far", CAT_ONE, ("add", "score", 1))
        self.does(CAT_ONE, ("set", "score", 1 - MOST))
        self.does(CAT_ONE, ("add", "score", -1))
        self.assertEqual(self.name("score", CAT_ONE), -MOST)
        self.falls("far", CAT_ONE, ("add", "score", -1))
        self.does(CAT_ONE, ("set", "speed", MOST))
        self.falls("far", CAT_ONE, ("add", "speed", MOST))

    def test_falls_as_its_look_ahead_of_far(self):
        for word, look in FALLING:
            for deed_word in ("set", "add"):
                self.falls(word, CAT_ONE, (deed_word, "top", look))
                self.falls(word, CAT_ONE, (deed_word, "speed", look))
        self.falls("far", CAT_ONE, ("add", "top", 1))


class Lists(Deeds):
    def test_put_behind_the_last_its_own_ahead_of_that_of_all(self):
        self.does(CAT_ONE, ("put", "bag", 7))
        self.does(OWL_ONE, ("put", "bag", 8))
        self.does(DOG_ONE, ("put", "bag", -9))
        self.does(CAT_ONE, ("put", "shelf", MOST))
        self.assertEqual(self.row("bag", CAT_ONE), [4, 5, 6, 7])
        self.assertEqual(self.row("bag", OWL_ONE), [8])
        self.assertEqual(self.ground.lists(), [("bag", [9, -9]), ("shelf", [-1, 0, 1, MOST])])

    def test_put_until_there_are_eight(self):
        for value in range(8):
            self.does(OWL_ONE, ("put", "bag", value))
        self.assertEqual(self.row("bag", OWL_ONE), list(range(8)))
        self.falls("full", OWL_ONE, ("put", "bag", 8))
        self.falls("full", OWL_ONE, ("put", "hoard", 8))
        self.does(OWL_ONE, ("drop", "hoard", 0))
        self.does(OWL_ONE, ("put", "hoard", 9))
        self.assertEqual(self.row("hoard", OWL_ONE), [2, 3, 4, 5, 6, 7, 8, 9])
        self.falls("full", OWL_ONE, ("put", "hoard", 10))

    def test_put_into_a_full_list_of_all(self):
        for value in range(7):
            self.does(DOG_ONE, ("put", "bag", value))
        self.falls("full", DOG_ONE, ("put", "bag", 1))
        self.does(CAT_ONE, ("put", "bag", 1))

    def test_drop_the_first_the_last_and_none_beyond(self):
        self.does(OWL_ONE, ("drop", "hoard", 0))
        self.does(OWL_ONE, ("drop", "hoard", 6))
        self.does(OWL_ONE, ("drop", "hoard", 2))
        self.assertEqual(self.row("hoard", OWL_ONE), [2, 3, 5, 6, 7])
        for place in (5, 6, -1, -5, -6, MOST, -MOST):
            self.falls("none", OWL_ONE, ("drop", "hoard", place))
        for place in (-1, 0, 1):
            self.falls("none", OWL_ONE, ("drop", "bag", place))

    def test_drop_its_own_ahead_of_that_of_all(self):
        self.does(CAT_ONE, ("drop", "bag", 1))
        self.assertEqual((self.row("bag", CAT_ONE), self.row("bag")), ([4, 6], [9]))
        self.does(DOG_ONE, ("drop", "bag", 0))
        self.assertEqual((self.row("bag", CAT_ONE), self.row("bag")), ([4, 6], []))
        self.does(CAT_ONE, ("drop", "shelf", 0))
        self.assertEqual(self.row("shelf"), [0, 1])

    def test_an_own_list_that_is_bare_hides_that_of_all(self):
        self.falls("none", OWL_ONE, ("drop", "bag", 0))
        self.falls("none", OWL_ONE, ("write", "bag", 0, 1))

    def test_write_the_first_the_last_and_none_beyond(self):
        self.does(OWL_ONE, ("write", "hoard", 0, 10))
        self.does(OWL_ONE, ("write", "hoard", 7, 80))
        self.does(OWL_ONE, ("write", "hoard", 3, MOST))
        self.assertEqual(self.row("hoard", OWL_ONE), [10, 2, 3, MOST, 5, 6, 7, 80])
        for place in (8, 9, -1, -8, -9, MOST, -MOST):
            self.falls("none", OWL_ONE, ("write", "hoard", place, 1))
        for place in (-1, 0, 1):
            self.falls("none", OWL_ONE, ("write", "bag", place, 1))

    def test_write_its_own_ahead_of_that_of_all(self):
        self.does(CAT_ONE, ("write", "bag", 0, 1))
        self.does(DOG_ONE, ("write", "bag", 0, 2))
        self.does(DOG_ONE, ("write", "shelf", 2, ("item", "shelf", 0)))
        self.assertEqual((self.row("bag", CAT_ONE), self.row("bag"), self.row("shelf")),
                         ([1, 5, 6], [2], [-1, 0, -1]))

    def test_falls_as_its_looks_ahead_of_full_and_none(self):
        for word, look in FALLING:
            self.falls(word, OWL_ONE, ("put", "hoard", look))
            self.falls(word, OWL_ONE, ("drop", "bag", look))
            self.falls(word, OWL_ONE, ("write", "hoard", look, 1))
            self.falls(word, OWL_ONE, ("write", "bag", 5, look))
            self.falls(word, OWL_ONE, ("write", "hoard", -1, look))

    def test_of_two_looks_that_fall_the_first(self):
        for (word, first), (_, second) in itertools.product(FALLING, FALLING):
            self.falls(word, OWL_ONE, ("write", "hoard", first, second))
            self.falls(word, OWL_ONE, ("place", first, second))

    def test_no_such_list_behind_its_looks(self):
        for deed in (("put", "missing", 1), ("drop", "missing", 0), ("write", "missing", 0, 1), ("put", "score", 1)):
            self.falls("none", CAT_ONE, deed)
        self.falls("nought", CAT_ONE, ("put", "missing", ("over", 1, 0)))


class Refused(Deeds):
    def test_looks_that_fall_at_any_place_within(self):
        for word, look in FALLING:
            for within in (look, ("plus", look, 1), ("by", 2, ("minus", look, 3)), ("item", "bag", look)):
                for deed in (("move", within), ("turn", within), ("place", within, 1), ("place", 1, within),
                             ("say", within), ("set", "score", within), ("add", "score", within),
                             ("put", "bag", within), ("drop", "bag", within), ("write", "bag", within, 1),
                             ("write", "bag", 1, within)):
                    self.falls(word, CAT_ONE, deed)

    def test_what_names_another_figures_is_not_there(self):
        self.falls("none", DOG_ONE, ("say", ("name", "top")))
        self.falls("none", CAT_ONE, ("say", ("many", "hoard")))


class HandedIn(Deeds):
    DEEDS = (("move", ("plus", 1, ("name", "far"))), ("turn", 1), ("place", ("name", "far"), 1), ("show",), ("hide",),
             ("say", ("item", "bag", ("name", "far"))), ("set", "score", ("name", "far")), ("add", "speed", 4),
             ("put", "bag", ("x",)), ("drop", "bag", 0), ("write", "bag", 0, ("many", "bag")))

    def test_deeds_and_params_of_lists(self):
        other = self.ground.twin()
        for deed in self.DEEDS:
            handed, one, params = as_lists(deed), ["cat", 0], [["far", 1]]
            told = other.do(one, handed, params=params)
            self.assertEqual(told, self.ground.do(CAT_ONE, deed, params=(("far", 1),)))
            self.assertEqual(other, self.ground)
            self.assertEqual((handed, one, params), (as_lists(deed), ["cat", 0], [["far", 1]]))

    def test_nothing_handed_in_is_kept(self):
        handed = ["put", "bag", 7]
        self.ground.do(CAT_ONE, handed)
        before = self.ground.twin()
        handed[2] = 8
        handed.append(9)
        self.assertEqual(self.ground, before)

    def test_the_same_question_is_told_the_same(self):
        deed = ("say", ("plus", ("name", "score"), ("many", "bag")))
        self.assertEqual([self.ground.do(CAT_ONE, deed) for _ in range(3)], [8, 8, 8])


if __name__ == "__main__":
    unittest.main()
