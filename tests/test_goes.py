"""What a run does in its go, what ends it, and in which order runs have their goes."""

import unittest

from figuredeeds.stage import Stage
from tests.plays_at_hand import figure, play_of, script

WAIT = ("wait", 1000)


def stage_of(*figures, most=100, copies=6, **more):
    return Stage(play_of(*figures, **more), most=most, copies=copies)


def solo(*deeds, most=100, copies=6, behind=(), **more):
    """A stage of one figure with a script of these deeds, the flag up, and more scripts behind it."""
    stage = stage_of(figure("cat", script("flag", *deeds), *behind, **more), most=most, copies=copies)
    stage.flag()
    return stage


def said(stage):
    """The values that were said, with their turn."""
    return [(turn, what) for turn, _, _, word, what in stage.tale() if word == "said"]


def fell(stage):
    return [(turn, what) for turn, _, _, word, what in stage.tale() if word == "fell"]


def whose(stage):
    """The runs there, by figure, number and script."""
    return [run[:3] for run in stage.runs()]


class Goes(unittest.TestCase):
    def test_deeds_of_the_ground_in_one_go(self):
        stage = solo(("move", 2), ("turn", 1), ("add", "n", 3), ("put", "bag", ("name", "n")), ("say", ("x",)),
                     ("hide",), names=(("n", 4),), lists=(("bag", ()),))
        self.assertEqual(whose(stage), [("cat", 0, 0)])
        self.assertEqual(stage.turn(), 1)
        self.assertEqual(stage.spot("cat"), (2, 0, 1))
        self.assertIs(stage.is_shown("cat"), False)
        self.assertEqual(stage.names(figure="cat"), [("n", 7)])
        self.assertEqual(stage.lists(figure="cat"), [("bag", [7])])
        self.assertEqual(stage.tale(), [(0, "cat", 0, "said", 2)])
        self.assertEqual(stage.runs(), [])

    def test_at_first_the_block_is_its_rest_without_frames(self):
        block = (("times", 2, (("show",),)), ("say", 1))
        stage = solo(*block)
        self.assertEqual(stage.runs(), [("cat", 0, 0, block, (), ())])

    def test_a_bare_block_is_over_at_its_first_go(self):
        stage = solo()
        self.assertEqual(stage.runs(), [("cat", 0, 0, (), (), ())])
        stage.start()
        self.assertEqual(stage.step(), ("cat", 0, 0))
        self.assertEqual(stage.runs(), [])
        self.assertIsNone(stage.step())
        self.assertEqual(stage.tale(), [])

    def test_it_is_over_as_soon_as_its_rest_is_bare(self):
        for deeds in ((("show",),), (("if", ("meets", "cat"), (("show",),), ()),), (("times", 0, (("show",),)),),
                      (("wait", 0),), (("until", ("like", 1, 1)),), (("tell", "none"),), (("await", "none"),)):
            stage = solo(*deeds)
            self.assertEqual(stage.turn(), 1)
            self.assertEqual(stage.runs(), [])
            self.assertEqual(stage.turn(), 0)

    def test_wait_gives_so_many_goes_away(self):
        for many in range(-1, 4):
            stage = solo(("say", 1), ("wait", many), ("say", 2))
            for _ in range(6):
                stage.turn()
            self.assertEqual(said(stage), [(0, 1), (max(many, 0), 2)])

    def test_until_is_looked_at_in_each_go(self):
        stage = stage_of(figure("cat", script("flag", ("until", ("like", ("name", "n"), 2)), ("say", 9)),
                                script("key up", ("add", "n", 1)), names=(("n", 0),)))
        stage.flag()
        for _ in range(2):
            stage.turn()
            stage.key("up")
            stage.turn()
            self.assertEqual(said(stage), [])
        # The key's run came behind it: what it added is seen at its next go.
        stage.turn()
        self.assertEqual(said(stage), [(4, 9)])

    def test_each_round_is_a_go(self):
        stage = solo(("times", 3, (("say", ("x",)), ("move", 1))), ("say", 9))
        goes = [stage.turn() for _ in range(5)]
        self.assertEqual(goes, [1, 1, 1, 1, 0])
        self.assertEqual(said(stage), [(0, 0), (1, 1), (2, 2), (3, 9)])

    def test_while_and_ever(self):
        stage = solo(("while", ("below", ("x",), 2), (("move", 1),)), ("ever", (("say", ("x",)), ("turn", 1))))
        for _ in range(5):
            stage.turn()
        self.assertEqual(said(stage), [(2, 2), (3, 2), (4, 2)])
        self.assertEqual(stage.spot("cat"), (2, 0, 3))
        self.assertEqual(len(stage.runs()), 1)

    def test_params_are_the_last_frames(self):
        pieces = (("outer", "open", ("a", "b"), (("do", "inner", (("plus", ("name", "a"), 1),)),
                                                 ("say", ("name", "a")), ("say", ("name", "b")))),
                  ("inner", "open", ("a",), (("say", ("name", "a")), ("wait", 1), ("say", ("name", "b")),
                                             ("times", ("name", "a"), (("say", ("name", "a")),)))))
        stage = solo(("do", "outer", (1, 5)), ("say", ("name", "a")), ("say", ("name", "b")), pieces=pieces,
                     names=(("a", 70), ("b", 80)))
        stage.turn()
        self.assertEqual(stage.runs()[0][4], (("open", (("a", 1), ("b", 5))), ("open", (("a", 2),))))
        for _ in range(5):
            stage.turn()
        self.assertEqual([value for _, value in said(stage)], [2, 80, 2, 2, 1, 5, 70, 80])
        self.assertEqual(stage.runs(), [])

    def test_set_in_a_piece_changes_no_param(self):
        pieces = (("hop", "open", ("a",), (("set", "a", 9), ("say", ("name", "a")))),)
        stage = solo(("do", "hop", (1,)), ("say", ("name", "a")), pieces=pieces, names=(("a", 3),))
        stage.turn()
        self.assertEqual(said(stage), [(0, 1), (0, 9)])

    def test_a_piece_may_do_itself_six_deep(self):
        pieces = (("dig", "open", ("n",), (("say", ("name", "n")), ("do", "dig", (("plus", ("name", "n"), 1),)))),)
        stage = solo(("do", "dig", (1,)), ("say", 0), pieces=pieces)
        stage.turn()
        self.assertEqual([value for _, value in said(stage)], [1, 2, 3, 4, 5, 6])
        self.assertEqual(fell(stage), [(0, "deep")])
        self.assertEqual(stage.runs(), [])


class Falls(unittest.TestCase):
    def falls(self, word, *deeds, **more):
        """What is refused does nothing, its run is over, all others go on."""
        stage = stage_of(figure("cat", script("flag", ("say", 1), *deeds, ("say", 2)), script("flag", ("say", 3)),
                                names=(("n", 1000000),), lists=(("bag", ()), ("full", (1,) * 8)), **more),
                         names=(("all", 0),), copies=0)
        stage.flag()
        before = stage.twin()
        self.assertEqual(stage.turn(), 2)
        with self.subTest(deeds=deeds):
            self.assertEqual(stage.tale(), [(0, "cat", 0, "said", 1), (0, "cat", 0, "fell", word),
                                            (0, "cat", 0, "said", 3)])
            self.assertEqual(stage.state()[:3], before.state()[:3])
            self.assertEqual(stage.runs(), [])

    def test_by_each_word(self):
        for word, deeds in (
                ("none", (("say", ("item", "bag", 0)),)), ("nought", (("say", ("over", 1, 0)),)),
                ("far", (("say", ("plus", ("name", "n"), 1)),)), ("far", (("add", "n", 1),)),
                ("full", (("put", "full", 1),)), ("none", (("drop", "bag", 0),)), ("none", (("write", "bag", 0, 1),)),
                ("nought", (("wait", ("rest", 1, 0)),)), ("none", (("until", ("like", 1, ("item", "bag", 0))),)),
                ("far", (("times", ("by", ("name", "n"), 2), ()),)), ("full", (("copy", None),)),
                ("full", (("copy", "cat"),))):
            self.falls(word, *deeds)

    def test_what_waits_in_a_closed_piece(self):
        pieces = (("shut", "closed", (), (("wait", 1),)), ("stay", "closed", (), (("until", ("like", 1, 2)),)),
                  ("hark", "closed", (), (("await", "tea"),)))
        for piece in ("shut", "stay", "hark"):
            self.falls("closed", ("do", piece, ()), pieces=pieces)

    def test_an_open_piece_in_a_closed_one_may_not_wait_either(self):
        for deed in (("wait", 1), ("until", ("like", 1, 2)), ("await", "tea")):
            pieces = (("shut", "closed", (), (("do", "ajar", ()),)), ("ajar", "open", (), (deed,)))
            self.falls("closed", ("do", "shut", ()), pieces=pieces)

    def test_a_closed_piece_behind_which_it_may_wait_again(self):
        pieces = (("shut", "closed", (), (("say", 1),)),)
        stage = solo(("do", "shut", ()), ("wait", 1), ("say", 2), pieces=pieces)
        stage.turn()
        stage.turn()
        self.assertEqual(said(stage), [(0, 1), (1, 2)])
        self.assertEqual(fell(stage), [])

    def test_a_closed_piece_is_done_in_one_go(self):
        pieces = (("shut", "closed", ("n",), (("times", ("name", "n"), (("add", "k", 1),)), ("say", ("name", "k")))),)
        for many, outcome in ((0, 0), (1, 1), (30, 30)):
            stage = solo(("do", "shut", (many,)), pieces=pieces, names=(("k", 0),))
            stage.turn()
            self.assertEqual(said(stage), [(0, outcome)])
        stage = solo(("do", "shut", (200,)), pieces=pieces, names=(("k", 0),))
        stage.turn()
        self.assertEqual((said(stage), fell(stage), stage.runs()), ([], [(0, "long")], []))

    def test_a_refused_await_tells_no_news(self):
        pieces = (("shut", "closed", (), (("await", "tea"),)),)
        stage = solo(("do", "shut", ()), pieces=pieces, behind=(script("news tea", ("say", 1)),))
        stage.turn()
        self.assertEqual((fell(stage), stage.runs()), ([(0, "closed")], []))

    def test_tell_in_a_closed_piece_is_right(self):
        pieces = (("shut", "closed", (), (("tell", "tea"), ("say", 1))),)
        stage = solo(("do", "shut", ()), pieces=pieces, behind=(script("news tea", ("say", 2)),))
        stage.turn()
        stage.turn()
        self.assertEqual((said(stage), fell(stage)), ([(0, 1), (1, 2)], []))

    def test_who_waited_goes_on_where_the_awaited_fell(self):
        stage = solo(("await", "tea"), ("say", 1), behind=(script("news tea", ("wait", 1), ("say", ("over", 1, 0))),))
        for _ in range(4):
            stage.turn()
        self.assertEqual(stage.tale(), [(2, "cat", 0, "fell", "nought"), (3, "cat", 0, "said", 1)])


class Long(unittest.TestCase):
    def test_as_many_items_as_the_stage_has_it_and_one_more(self):
        for most in (1, 2, 3, 5, 8):
            for many in range(1, 9):
                stage = solo(*[("add", "n", 1)] * many, most=most, names=(("n", 0),))
                stage.turn()
                with self.subTest(most=most, many=many):
                    self.assertEqual(stage.names(figure="cat"), [("n", min(many, most))])
                    self.assertEqual(fell(stage), [(0, "long")] if many > most else [])
                    self.assertEqual(stage.runs(), [])

    def test_the_last_one_may_give(self):
        for give in (("wait", 1), ("until", ("like", 1, 2)), ("times", 0, ())):
            stage = solo(("show",), ("show",), give, ("say", 1), most=3)
            stage.turn()
            self.assertEqual(fell(stage), [(0, "long")] if give[0] == "times" else [])
            stage = solo(("show",), ("show",), ("show",), give, most=3)
            stage.turn()
            self.assertEqual(fell(stage), [(0, "long")])

    def test_each_item_counts_rounds_outs_and_endeds_too(self):
        pieces = (("nap", "open", (), ()), ("shut", "closed", (), (("times", 2, ()),)))
        for deed, items in ((("do", "nap", ()), 2), (("if", ("like", 1, 1), (("show",),), ()), 2),
                            (("if", ("like", 1, 1), (), ()), 1), (("await", "none"), 2), (("tell", "none"), 1),
                            (("do", "shut", ()), 7), (("wait", 0), 1), (("stop", "others"), 1), (("copy", None), 1)):
            for most in (items, items + 1):
                stage = solo(deed, ("say", 1), most=most, pieces=pieces)
                stage.turn()
                with self.subTest(deed=deed, most=most):
                    self.assertEqual((said(stage), fell(stage)),
                                     (([], [(0, "long")]) if most == items else ([(0, 1)], [])))

    def test_they_are_counted_anew_in_each_go(self):
        stage = solo(("ever", (("show",), ("say", 1))), most=4)
        for _ in range(9):
            stage.turn()
        self.assertEqual(len(said(stage)), 9)
        stage = solo(("ever", (("show",), ("say", 1))), most=3)
        stage.turn()
        self.assertEqual((len(said(stage)), fell(stage)), (1, [(0, "long")]))

    def test_most_of_one_and_of_five_hundred(self):
        stage = solo(("wait", 2), ("say", 1), most=1)
        self.assertEqual([stage.turn() for _ in range(3)], [1, 1, 1])
        self.assertEqual(fell(stage), [(2, "long")])
        pieces = (("shut", "closed", ("n",), (("times", ("name", "n"), (("add", "k", 1),)),)),)
        # do, then of each time three items, the last times, out, and say.
        for many, falls in ((165, False), (166, True)):
            stage = solo(("do", "shut", (many,)), ("say", 1), most=500, pieces=pieces, names=(("k", 0),))
            stage.turn()
            self.assertEqual(fell(stage), [(0, "long")] if falls else [])
            self.assertEqual(said(stage), [] if falls else [(0, 1)])

    def test_where_nothing_else_is_said_it_is_a_hundred(self):
        pieces = (("shut", "closed", ("n",), (("times", ("name", "n"), (("add", "k", 1),)),)),)
        for many, wanted in ((32, []), (33, [(0, "long")])):
            play = play_of(figure("cat", script("flag", ("do", "shut", (many,)), ("say", 1)), pieces=pieces,
                                  names=(("k", 0),)))
            stage = Stage(play)
            stage.flag()
            stage.turn()
            self.assertEqual(fell(stage), wanted)

    def test_what_falls_and_is_one_too_many_falls_long(self):
        stage = solo(("show",), ("say", ("over", 1, 0)), most=1)
        stage.turn()
        self.assertEqual(fell(stage), [(0, "long")])


class Ends(unittest.TestCase):
    SCRIPTS = (script("flag", WAIT), script("flag", WAIT))

    def test_end_of_number_nought_ends_this_run_alone(self):
        stage = solo(("end",), ("say", 1), behind=self.SCRIPTS)
        stage.turn()
        self.assertEqual(whose(stage), [("cat", 0, 1), ("cat", 0, 2)])
        self.assertEqual((stage.ones(), stage.tale()), ([("cat", 0)], []))

    def test_end_of_a_copy_ends_its_runs_and_it_is_gone(self):
        stage = stage_of(figure("cat", script("flag", ("copy", None), WAIT), script("born", WAIT),
                                script("born", ("say", 1), ("wait", 1), ("end",), ("say", 2)), script("born", WAIT)))
        stage.flag()
        stage.turn()
        self.assertEqual(whose(stage), [("cat", 0, 0), ("cat", 1, 1), ("cat", 1, 2), ("cat", 1, 3)])
        stage.turn()
        stage.start()
        self.assertEqual([stage.step() for _ in range(3)], [("cat", 0, 0), ("cat", 1, 1), ("cat", 1, 2)])
        self.assertEqual(whose(stage), [("cat", 0, 0)])
        self.assertIsNone(stage.step())
        self.assertEqual(stage.ones(), [("cat", 0)])
        self.assertEqual(stage.tale(), [(0, "cat", 1, "came", None), (1, "cat", 1, "said", 1),
                                        (2, "cat", 1, "went", None)])

    def test_stop_run(self):
        stage = solo(("stop", "run"), ("say", 1), behind=self.SCRIPTS)
        stage.turn()
        self.assertEqual((whose(stage), stage.tale()), ([("cat", 0, 1), ("cat", 0, 2)], []))

    def with_copies(self, word):
        """Two figures and two copies, all with runs that wait; a touch lets one stop."""
        stage = stage_of(
            figure("dog", script("flag", WAIT)),
            figure("cat", script("flag", ("copy", None), ("copy", "owl"), WAIT), script("born", WAIT),
                   script("touch", ("stop", word), ("say", ("number",)), WAIT), script("born", WAIT)),
            figure("owl", script("flag", WAIT), script("born", WAIT)))
        stage.flag()
        stage.turn()
        stage.turn()
        return stage

    def test_stop_others_ends_all_other_runs_of_this_one(self):
        stage = self.with_copies("others")
        stage.touch("cat", number=1)
        stage.turn()
        self.assertEqual(whose(stage), [("dog", 0, 0), ("cat", 0, 0), ("owl", 0, 0), ("owl", 1, 1), ("cat", 1, 2)])
        self.assertEqual(said(stage), [(2, 1)])
        stage.touch("cat")
        stage.turn()
        self.assertEqual(whose(stage), [("dog", 0, 0), ("owl", 0, 0), ("owl", 1, 1), ("cat", 1, 2), ("cat", 0, 2)])
        self.assertEqual(len(stage.ones()), 5)

    def test_stop_others_ends_those_that_have_not_had_their_go_too(self):
        stage = solo(("stop", "others"), ("say", 1), behind=(script("flag", ("say", 2)), script("flag", ("say", 3))))
        self.assertEqual(stage.turn(), 1)
        self.assertEqual(said(stage), [(0, 1)])

    def test_stop_all_ends_all_runs_and_all_copies_are_gone(self):
        stage = self.with_copies("all")
        stage.touch("cat", number=1)
        self.assertEqual(stage.turn(), 7)
        self.assertEqual((stage.runs(), stage.ones()), ([], [("dog", 0), ("cat", 0), ("owl", 0)]))
        self.assertEqual(stage.tale(first=2), [(2, "cat", 1, "went", None), (2, "owl", 1, "went", None)])
        stage.touch("cat")
        self.assertEqual(stage.turn(), 1)
        self.assertEqual((stage.runs(), len(stage.tale())), ([], 4))

    def test_stop_all_ends_those_that_have_not_had_their_go_too(self):
        stage = solo(("stop", "all"), behind=(script("flag", ("say", 2)),))
        self.assertEqual(stage.turn(), 1)
        self.assertEqual(said(stage), [])


class Copies(unittest.TestCase):
    def test_a_copy_of_its_own_one_as_it_is_then(self):
        stage = stage_of(figure("cat", script("flag", ("move", 2), ("set", "n", 5), ("put", "bag", 1), ("hide",),
                                              ("copy", None), ("move", 1), ("set", "n", 6), ("show",)),
                                names=(("n", 0),), lists=(("bag", ()),)))
        stage.flag()
        stage.turn()
        self.assertEqual(stage.spot("cat", number=1), (2, 0, 0))
        self.assertIs(stage.is_shown("cat", number=1), False)
        self.assertEqual(stage.names(figure="cat", number=1), [("n", 5)])
        self.assertEqual(stage.lists(figure="cat", number=1), [("bag", [1])])
        self.assertEqual((stage.spot("cat"), stage.names(figure="cat")), ((3, 0, 0), [("n", 6)]))
        self.assertEqual(stage.tale(), [(0, "cat", 1, "came", None)])

    def test_a_copys_copy_is_as_that_copy_is(self):
        stage = stage_of(figure("cat", script("touch", ("add", "n", 1), ("copy", None)), names=(("n", 0),)))
        for number, wanted in ((0, 1), (1, 2), (2, 3)):
            stage.touch("cat", number=number)
            stage.turn()
            self.assertEqual(stage.names(figure="cat", number=number + 1), [("n", wanted)])

    def test_of_a_figures_name_that_figures_one_of_number_nought(self):
        stage = stage_of(figure("cat", script("touch", ("copy", "cat"), ("copy", "dog"))),
                         figure("dog", script("touch", ("move", 1)), spot=(1, 1, 1)))
        stage.touch("cat")
        stage.turn()
        self.assertEqual(stage.ones(), [("cat", 0), ("cat", 1), ("dog", 0), ("dog", 1)])
        stage.touch("dog", number=1)
        stage.turn()
        stage.touch("cat", number=1)
        stage.turn()
        self.assertEqual([stage.spot("dog", number=number) for number in range(3)], [(1, 1, 1), (1, 2, 1), (1, 1, 1)])

    def test_its_scripts_of_being_born_are_begun_in_order(self):
        stage = stage_of(figure("cat", script("born", ("say", 1)), script("flag", ("copy", None), ("copy", None), WAIT),
                                script("born", ("say", 2)), script("flag", WAIT)))
        stage.flag()
        self.assertEqual(stage.turn(), 2)
        self.assertEqual(whose(stage), [("cat", 0, 1), ("cat", 0, 3), ("cat", 1, 0), ("cat", 1, 2), ("cat", 2, 0),
                                        ("cat", 2, 2)])
        self.assertEqual(stage.turn(), 6)
        self.assertEqual(stage.seen()[1], (("cat", 1), ("cat", 2), ("cat", 1), ("cat", 2)))

    def test_as_many_copies_as_may_be_and_one_more(self):
        for copies in (0, 1, 5, 12):
            stage = stage_of(figure("cat", script("touch", ("copy", None), ("say", 1)), script("born", ("say", 2))),
                             figure("dog", script("touch", ("copy", None), ("say", 3))), copies=copies)
            for many in range(copies):
                stage.touch(("cat", "dog")[many % 2])
                stage.turn()
            self.assertEqual(len(stage.ones()), copies + 2)
            self.assertEqual(fell(stage), [])
            stage.turn()
            for name in ("cat", "dog"):
                stage.touch(name)
                before = stage.state()[:3]
                stage.turn()
                self.assertEqual(stage.tale()[-1][1:], (name, 0, "fell", "full"))
                self.assertEqual((stage.state()[:3], stage.runs()), (before, []))

    def test_without_more_said_six_copies(self):
        play = play_of(figure("cat", script("flag", *[("copy", None)] * 7)))
        stage = Stage(play)
        stage.flag()
        stage.turn()
        self.assertEqual(len(stage.ones()), 7)
        self.assertEqual(fell(stage), [(0, "full")])

    def test_an_ended_copy_leaves_a_free_number_and_room(self):
        stage = stage_of(figure("cat", script("key a", ("if", ("like", ("number",), 0), (("copy", None),), ())),
                                script("touch", ("end",)), names=(("n", 3),)), copies=3)
        for _ in range(3):
            stage.key("a")
            stage.turn()
        for number in (1, 3):
            stage.touch("cat", number=number)
        stage.turn()
        self.assertEqual(stage.ones(), [("cat", 0), ("cat", 2)])
        for _ in range(3):
            stage.key("a")
            stage.turn()
        self.assertEqual(stage.ones(), [("cat", 0), ("cat", 1), ("cat", 2), ("cat", 3)])
        self.assertEqual([entry[1:] for entry in stage.tale()[3:]],
                         [("cat", 1, "went", None), ("cat", 3, "went", None), ("cat", 1, "came", None),
                          ("cat", 3, "came", None), ("cat", 0, "fell", "full")])


class News(unittest.TestCase):
    def test_each_one_in_order_each_script_in_order(self):
        stage = stage_of(figure("cat", script("news tea", WAIT), script("flag", ("copy", "owl"), ("copy", None)),
                                script("news ale", WAIT), script("news tea", WAIT)),
                         figure("owl", script("flag"), script("news tea", WAIT)))
        stage.flag()
        stage.turn()
        stage.news("tea")
        self.assertEqual(whose(stage), [("cat", 0, 0), ("cat", 0, 3), ("cat", 1, 0), ("cat", 1, 3), ("owl", 0, 1),
                                        ("owl", 1, 1)])

    def test_told_again_it_begins_them_anew_behind_all(self):
        stage = stage_of(figure("cat", script("news tea", ("say", 1), ("wait", 2), ("say", 2)), script("key up", WAIT)))
        stage.news("tea")
        stage.key("up")
        stage.turn()
        self.assertEqual(whose(stage), [("cat", 0, 0), ("cat", 0, 1)])
        stage.news("tea")
        self.assertEqual(stage.runs(), [("cat", 0, 1, (("wait", 999),), (), ()),
                                        ("cat", 0, 0, (("say", 1), ("wait", 2), ("say", 2)), (), ())])

    def test_tell_begins_them_for_the_next_turn_and_goes_on(self):
        stage = solo(("tell", "tea"), ("say", 1), behind=(script("news tea", ("say", 2)),))
        self.assertEqual(stage.turn(), 1)
        self.assertEqual(said(stage), [(0, 1)])
        self.assertEqual(stage.turn(), 1)
        self.assertEqual(said(stage), [(0, 1), (1, 2)])

    def test_a_run_begun_anew_ahead_of_its_go_has_none_in_that_turn(self):
        stage = stage_of(figure("cat", script("flag", ("tell", "tea"), ("say", 1)), script("news tea", ("say", 2))))
        stage.flag()
        stage.news("tea")
        self.assertEqual(stage.turn(), 1)
        self.assertEqual(said(stage), [(0, 1)])
        self.assertEqual(stage.turn(), 1)
        self.assertEqual(said(stage), [(0, 1), (1, 2)])

    def test_the_tellers_own_run_may_be_over(self):
        for word in ("tell", "await"):
            stage = stage_of(figure("cat", script("news tea", ("say", 1), (word, "tea"), ("say", 2))))
            stage.news("tea")
            for turns in range(1, 4):
                self.assertEqual(stage.turn(), 1)
                self.assertEqual(said(stage), [(turn, 1) for turn in range(turns)])
                self.assertEqual(stage.runs(), [("cat", 0, 0, (("say", 1), (word, "tea"), ("say", 2)), (), ())])

    def test_its_own_run_ends_and_the_others_begin_all_the_same(self):
        stage = stage_of(figure("cat", script("news tea", ("tell", "tea")), script("news tea", ("say", 1))),
                         figure("dog", script("news tea", ("say", 2))))
        stage.news("tea")
        stage.turn()
        self.assertEqual(whose(stage), [("cat", 0, 0), ("cat", 0, 1), ("dog", 0, 0)])
        self.assertEqual(said(stage), [])

    def test_news_of_no_script(self):
        stage = solo(("tell", "none"), ("await", "none"), ("say", 1))
        stage.news("none")
        stage.turn()
        self.assertEqual(said(stage), [(0, 1)])


class Await(unittest.TestCase):
    def test_it_goes_on_at_the_first_of_its_goes_at_which_all_are_over(self):
        stage = stage_of(figure("cat", script("flag", ("say", 1), ("await", "tea"), ("say", 2))),
                         figure("dog", script("news tea", ("wait", 1)), script("news tea", ("wait", 3))))
        stage.flag()
        stage.turn()
        behind = (("ended",), ("say", 2))
        self.assertEqual(stage.runs(), [("cat", 0, 0, behind, (), (1, 2)), ("dog", 0, 0, (("wait", 1),), (), ()),
                                        ("dog", 0, 1, (("wait", 3),), (), ())])
        stage.turn()
        self.assertEqual(stage.runs()[0], ("cat", 0, 0, behind, (), (1, 2)))
        stage.turn()
        self.assertEqual(stage.runs()[0], ("cat", 0, 0, behind, (), (1,)))
        stage.turn()
        self.assertEqual(stage.runs()[0], ("cat", 0, 0, behind, (), (1,)))
        stage.turn()
        self.assertEqual(stage.runs(), [("cat", 0, 0, behind, (), ())])
        stage.turn()
        self.assertEqual((said(stage), stage.runs()), ([(0, 1), (5, 2)], []))

    def test_those_it_awaits_have_their_goes_behind_its_own(self):
        stage = stage_of(figure("cat", script("news tea", ("await", "ale"), ("say", 1)), script("news ale")))
        stage.news("tea")
        self.assertEqual([stage.turn() for _ in range(3)], [1, 2, 1])
        self.assertEqual(said(stage), [(2, 1)])

    def test_where_none_is_begun_it_goes_on_at_once(self):
        stage = solo(("await", "tea"), ("say", 1))
        stage.turn()
        self.assertEqual(said(stage), [(0, 1)])

    def test_told_again_while_it_is_awaited(self):
        """The runs that were awaited are over; the new ones are another's."""
        stage = stage_of(figure("cat", script("flag", ("await", "tea"), ("say", 1))),
                         figure("dog", script("news tea", ("wait", 5), ("say", 2))))
        stage.flag()
        stage.turn()
        self.assertEqual(stage.runs()[0][5], (1,))
        stage.news("tea")
        self.assertEqual(stage.runs()[0], ("cat", 0, 0, (("ended",), ("say", 1)), (), ()))
        stage.turn()
        self.assertEqual(said(stage), [(1, 1)])
        self.assertEqual(whose(stage), [("dog", 0, 0)])

    def test_two_that_await_the_same_news(self):
        stage = stage_of(figure("cat", script("flag", ("await", "tea"), ("say", 1)),
                                script("flag", ("await", "tea"), ("say", 2))),
                         figure("dog", script("news tea", ("wait", 1))))
        stage.flag()
        stage.turn()
        self.assertEqual([run[5] for run in stage.runs()], [(), (2,), ()])
        for _ in range(3):
            stage.turn()
        self.assertEqual(said(stage), [(1, 1), (3, 2)])

    def test_what_those_begin_is_not_awaited(self):
        stage = stage_of(figure("cat", script("flag", ("await", "tea"), ("say", 1)),
                                script("news tea", ("tell", "ale"), ("copy", None)), script("news ale", WAIT),
                                script("born", WAIT)))
        stage.flag()
        for _ in range(3):
            stage.turn()
        self.assertEqual(said(stage), [(2, 1)])
        self.assertEqual(whose(stage), [("cat", 0, 2), ("cat", 1, 3)])

    def test_one_await_behind_another(self):
        stage = solo(("times", 2, (("await", "tea"),)), ("say", 9), behind=(script("news tea", ("say", 1)),))
        for _ in range(7):
            stage.turn()
        self.assertEqual(said(stage), [(1, 1), (4, 1), (6, 9)])

    def test_an_await_within_an_open_piece(self):
        pieces = (("sip", "open", ("n",), (("await", "tea"), ("say", ("name", "n")))),)
        stage = solo(("do", "sip", (7,)), pieces=pieces, behind=(script("news tea", ("say", 1)),))
        stage.turn()
        self.assertEqual(stage.runs()[0], ("cat", 0, 0, (("ended",), ("say", ("name", "n")), ("out",)),
                                           (("open", (("n", 7),)),), (1,)))
        stage.turn()
        stage.turn()
        self.assertEqual(said(stage), [(1, 1), (2, 7)])

    def test_copies_that_end_while_others_wait(self):
        stage = stage_of(figure("cat", script("flag", ("copy", None), ("copy", None), ("wait", 1), ("await", "tea"),
                                              ("say", 9)),
                                script("news tea", ("if", ("like", ("number",), 0), (), (("wait", ("number",)),)),
                                       ("say", ("number",)), ("end",)),
                                script("news tea", ("if", ("like", ("number",), 0), (), (WAIT,)))))
        stage.flag()
        stage.turn()
        stage.turn()
        self.assertEqual(stage.runs()[0][5], (1, 2, 3, 4, 5, 6))
        stage.turn()
        self.assertEqual(stage.runs()[0][5], (1, 2, 3, 4))
        stage.turn()
        self.assertEqual((stage.ones(), stage.runs()[0][5]), ([("cat", 0), ("cat", 2)], (1, 2)))
        stage.turn()
        self.assertEqual((stage.ones(), len(stage.runs()), stage.runs()[0][5]), ([("cat", 0)], 1, ()))
        stage.turn()
        self.assertEqual(said(stage), [(2, 0), (3, 1), (4, 2), (5, 9)])

    def test_a_copy_that_waits_may_be_gone(self):
        stage = stage_of(figure("cat", script("flag", ("copy", None)), script("born", ("await", "tea"), ("say", 1)),
                                script("touch", ("end",))),
                         figure("dog", script("news tea", WAIT)))
        stage.flag()
        stage.turn()
        stage.turn()
        stage.touch("cat", number=1)
        stage.turn()
        self.assertEqual((stage.ones(), whose(stage)), ([("cat", 0), ("dog", 0)], [("dog", 0, 0)]))

    def test_stop_and_await(self):
        stage = stage_of(figure("cat", script("flag", ("await", "tea"), ("say", 1)),
                                script("news tea", ("stop", "others"), ("say", 2))))
        stage.flag()
        for _ in range(3):
            stage.turn()
        self.assertEqual((said(stage), stage.runs()), ([(1, 2)], []))


class Happenings(unittest.TestCase):
    def test_the_flag_midway(self):
        stage = stage_of(figure("cat", script("flag", ("move", 1), ("set", "n", 8), ("hide",), ("copy", None), WAIT),
                                script("key up", WAIT), script("flag", ("say", 1), WAIT), names=(("n", 0),),
                                lists=(("bag", (4,)),)),
                         figure("dog", script("flag", ("copy", "dog"), WAIT), script("touch", WAIT)))
        stage.flag()
        stage.key("up")
        stage.touch("dog")
        stage.turn()
        stage.touch("dog", number=1)
        self.assertEqual(stage.ones(), [("cat", 0), ("cat", 1), ("dog", 0), ("dog", 1)])
        stage.flag()
        self.assertEqual(stage.ones(), [("cat", 0), ("dog", 0)])
        self.assertEqual([(run[:3], len(run[3]), run[4:]) for run in stage.runs()],
                         [(("cat", 0, 0), 5, ((), ())), (("cat", 0, 2), 2, ((), ())), (("dog", 0, 0), 2, ((), ()))])
        self.assertEqual((stage.spot("cat"), stage.is_shown("cat")), ((1, 0, 0), False))
        self.assertEqual((stage.names(figure="cat"), stage.lists(figure="cat")), ([("n", 8)], [("bag", [4])]))
        self.assertEqual(stage.tale(first=3), [(1, "cat", 1, "went", None), (1, "dog", 1, "went", None)])
        stage.turn()
        self.assertEqual(stage.spot("cat"), (2, 0, 0))
        self.assertEqual(stage.ones(), [("cat", 0), ("cat", 1), ("dog", 0), ("dog", 1)])

    def test_a_key_begins_what_has_no_run(self):
        stage = stage_of(figure("cat", script("key up", ("wait", 2), ("say", 1)), script("key up", ("say", 2)),
                                script("key down", WAIT), script("flag", ("copy", None))))
        stage.flag()
        stage.turn()
        stage.key("up")
        self.assertEqual(whose(stage), [("cat", 0, 0), ("cat", 0, 1), ("cat", 1, 0), ("cat", 1, 1)])
        stage.turn()
        stage.key("up")
        self.assertEqual([run[:4] for run in stage.runs()],
                         [("cat", 0, 0, (("wait", 1), ("say", 1))), ("cat", 1, 0, (("wait", 1), ("say", 1))),
                          ("cat", 0, 1, (("say", 2),)), ("cat", 1, 1, (("say", 2),))])
        stage.key("left")
        self.assertEqual(len(stage.runs()), 4)

    def test_a_touch_begins_that_ones_alone(self):
        stage = stage_of(figure("cat", script("touch", ("wait", 1)), script("flag", ("copy", None)),
                                script("touch", ("say", 1))),
                         figure("dog", script("touch", WAIT)))
        stage.flag()
        stage.turn()
        stage.touch("cat", number=1)
        self.assertEqual(whose(stage), [("cat", 1, 0), ("cat", 1, 2)])
        stage.turn()
        stage.touch("cat", number=1)
        stage.touch("dog")
        stage.touch("cat")
        self.assertEqual(whose(stage), [("cat", 1, 0), ("cat", 1, 2), ("dog", 0, 0), ("cat", 0, 0), ("cat", 0, 2)])

    def test_no_hat_but_its_own(self):
        scripts = [script(hat, WAIT) for hat in ("flag", "key a", "news a", "touch", "born")]
        for at, happen in enumerate((lambda stage: stage.flag(), lambda stage: stage.key("a"),
                                     lambda stage: stage.news("a"), lambda stage: stage.touch("cat"))):
            stage = stage_of(figure("cat", *scripts))
            happen(stage)
            self.assertEqual(whose(stage), [("cat", 0, at)])


class Turns(unittest.TestCase):
    def test_in_the_order_in_which_they_were_begun(self):
        figures = [figure(name, *[script(hat, ("ever", (("say", value),))) for hat, value in scripts])
                   for name, scripts in (("cat", (("key a", 1), ("key b", 2))), ("dog", (("key a", 3), ("key b", 4))))]
        stage = stage_of(*figures)
        stage.key("b")
        stage.key("a")
        for _ in range(3):
            self.assertEqual(stage.turn(), 4)
            self.assertEqual(stage.seen()[1], (("cat", 2), ("dog", 4), ("cat", 1), ("dog", 3)))

    def test_each_once_whatever_their_stacks_are(self):
        stage = stage_of(figure("cat", script("flag", ("wait", 3)), script("flag", ("times", 9, ())), script("flag"),
                                script("flag", ("await", "tea")), script("news tea", ("say", 1))))
        stage.flag()
        stage.start()
        steps = [stage.step() for _ in range(5)]
        self.assertEqual(steps, [("cat", 0, 0), ("cat", 0, 1), ("cat", 0, 2), ("cat", 0, 3), None])

    def test_those_begun_in_it_have_their_first_go_in_the_next(self):
        stage = stage_of(figure("cat", script("flag", ("tell", "tea"), ("copy", None)), script("news tea", ("say", 1)),
                                script("born", ("say", 2))))
        stage.flag()
        self.assertEqual([stage.turn() for _ in range(3)], [1, 2, 0])
        self.assertEqual(said(stage), [(1, 1), (1, 2)])

    def test_who_is_over_by_then_has_none(self):
        stage = stage_of(figure("cat", script("flag", ("stop", "others")), script("flag", ("say", 1))),
                         figure("dog", script("flag", ("say", 2))))
        stage.flag()
        self.assertEqual(stage.turn(), 2)
        self.assertEqual(said(stage), [(0, 2)])

    def test_what_one_changes_the_next_one_sees(self):
        stage = stage_of(figure("cat", script("flag", ("set", "n", 5)), script("flag", ("say", ("name", "n")))),
                         figure("dog", script("flag", ("say", ("name", "n")), ("set", "n", 6), ("say", ("name", "n")))),
                         names=(("n", 0),))
        stage.flag()
        stage.turn()
        self.assertEqual(said(stage), [(0, 5), (0, 5), (0, 6)])

    def test_a_turn_without_runs(self):
        stage = stage_of(figure("cat"))
        self.assertEqual([stage.turn(), stage.turn(), len(stage)], [0, 0, 2])


if __name__ == "__main__":
    unittest.main()
