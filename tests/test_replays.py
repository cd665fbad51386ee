import inspect
import unittest

from figuredeeds.errors import BadPlay, NoOne, NoTurn
from figuredeeds.replays import as_of, replay, shows_log
from figuredeeds.stage import Stage
from tests.plays_at_hand import NO_PART, as_lists, figure, part_at, places_in, play_of, script, with_part
from tests.random_plays import Maker

CAT = figure("cat", script("flag", ("copy", None), ("say", 1), ("copy", "dog")), script("touch", ("move", 1), ("end",)),
             script("key up", ("say", 2), ("say", 3), ("say", 4)))
DOG = figure("dog", script("news tea", ("ever", (("move", 1),))))
OURS = play_of(CAT, DOG)
LOG = [("flag",), ("key", "up"), ("turn",), ("touch", "cat", 1), ("touch", "dog", 1), ("news", "tea"), ("turn",),
       ("key", "left"), ("turn",), ("touch", "cat", 0)]


def told_of(stage):
    return (stage.state(), stage.seen(), stage.tale(), stage.log(), len(stage), stage.is_open())


def by_hand():
    """A stage with which what LOG has happened."""
    stage = Stage(OURS)
    stage.flag()
    stage.key("up")
    stage.turn()
    stage.touch("cat", number=1)
    stage.touch("dog", number=1)
    stage.news("tea")
    stage.turn()
    stage.key("left")
    stage.turn()
    stage.touch("cat")
    return stage


class Replay(unittest.TestCase):
    def test_all_of_a_log_one_behind_the_other(self):
        stage = by_hand()
        self.assertEqual(stage.log(), LOG)
        again = replay(OURS, LOG)
        self.assertIsInstance(again, Stage)
        self.assertEqual(again, stage)
        self.assertEqual(told_of(again), told_of(stage))

    def test_a_bare_log(self):
        self.assertEqual(told_of(replay(OURS, [])), told_of(Stage(OURS)))
        self.assertEqual(replay(OURS, ()), Stage(OURS))

    def test_lists_for_tuples_and_tuples_for_lists(self):
        for log in (as_lists(tuple(LOG)), tuple(LOG), [list(entry) for entry in LOG], tuple(map(list, LOG))):
            again = replay(OURS, log)
            self.assertEqual(told_of(again), told_of(by_hand()))
            self.assertEqual(again.log(), LOG)

    def test_what_is_handed_in_is_neither_changed_nor_kept(self):
        log = [list(entry) for entry in LOG]
        stage = replay(OURS, log)
        self.assertEqual(log, [list(entry) for entry in LOG])
        before = told_of(stage)
        for entry in log:
            entry.clear()
        log.clear()
        self.assertEqual(told_of(stage), before)

    def test_most_and_copies(self):
        for most, copies in ((1, 6), (2, 0), (500, 12), (100, 1)):
            stage = Stage(OURS, most=most, copies=copies)
            for happen in (stage.flag, lambda: stage.key("up"), stage.turn):
                happen()
            again = replay(OURS, LOG[:3], most=most, copies=copies)
            self.assertEqual(told_of(again), told_of(stage))
            self.assertEqual(again, stage)
        self.assertNotEqual(replay(OURS, LOG[:3], most=1), replay(OURS, LOG[:3]))
        self.assertNotEqual(replay(OURS, LOG[:3], copies=1), replay(OURS, LOG[:3]))

    def test_refused_as_a_stage_is(self):
        for play in (None, as_lists(OURS), OURS[:3], with_part(OURS, (0,), [5, 4])):
            with self.assertRaises(BadPlay) as caught:
                replay(play, LOG)
            self.assertEqual(caught.exception.play, play)
        # Of several refusals that are due the play's comes first.
        with self.assertRaises(BadPlay):
            replay(None, [("touch", "cow", 0)])

    def test_touched_who_is_not_there(self):
        for log, name, number in (([("touch", "cow", 0)], "cow", 0), ([("touch", "cat", 1)], "cat", 1),
                                  ([("flag",), ("touch", "cat", 1)], "cat", 1),
                                  (LOG[:7] + [("touch", "cat", 1)], "cat", 1),
                                  (LOG[:3] + [["touch", "dog", 2]], "dog", 2),
                                  (LOG[:3] + [("flag",), ("touch", "dog", 1)], "dog", 1)):
            with self.assertRaises(NoOne) as caught:
                replay(OURS, log)
            self.assertEqual((caught.exception.figure, caught.exception.number), (name, number))

    def test_of_each_stages_log_it_is_that_stage(self):
        for seed in range(80):
            maker = Maker(seed)
            most, copies = maker.one_of(2, 10, 100), maker.one_of(0, 2, 6)
            stage = Stage(maker.play(), most=most, copies=copies)
            kept = [stage.twin()]
            for _ in range(25):
                maker.happen(stage)
                if stage.log()[-1] == ("turn",):
                    kept.append(stage.twin())
            again = replay(stage.play, stage.log(), most=most, copies=copies)
            self.assertEqual(again, stage)
            self.assertEqual(told_of(again), told_of(stage))
            self.assertIs(shows_log(stage.play, stage.log(), most=most, copies=copies), True)
            for many, then in enumerate(kept):
                self.assertEqual(told_of(as_of(stage, many)), told_of(then))
                self.assertEqual(as_of(stage, many), then)

    def test_three_hundred_happenings_and_two_hundred_turns(self):
        log = [("flag",), ("turn",)] * 200 + [("key", "up")] * 100
        stage = replay(OURS, log)
        self.assertEqual((len(stage), stage.log()), (200, log))
        self.assertIs(shows_log(OURS, log), True)
        self.assertEqual(len(as_of(stage, 200)), 200)


class ShowsLog(unittest.TestCase):
    def expect(self, thing, wanted, **more):
        with self.subTest(thing=thing):
            self.assertIs(shows_log(OURS, thing, **more), wanted)

    def test_logs(self):
        self.expect([], True)
        for many in range(len(LOG) + 1):
            self.expect(LOG[:many], True)
        for happening in (("flag",), ("turn",), ("key", "nokey"), ("news", "abcdefgh"), ("touch", "dog", 0)):
            self.expect([happening], True)
            self.expect(LOG + [happening], True)

    def test_things_of_any_kind(self):
        for thing in NO_PART + [()]:
            self.expect(thing, False)
            self.expect([thing], False)
            self.expect(LOG + [thing], False)
            self.expect([thing] + LOG, False)

    def test_a_tuple_is_no_list_and_a_list_no_tuple(self):
        self.expect(tuple(LOG), False)
        self.expect(as_lists(tuple(LOG)), False)
        for place in places_in(LOG):
            part = part_at(LOG, place)
            if isinstance(part, tuple):
                self.expect(with_part(LOG, place, list(part)), False)
                for wrong in (None, "turn", (), part + (None,), part + (0,), part + ("a",)):
                    self.expect(with_part(LOG, place, wrong), False)
            elif isinstance(part, str):
                for wrong in ("", "A", "abcdefghi", 1, None, True, ("a",), ["a"]):
                    self.expect(with_part(LOG, place, wrong), False)
            elif isinstance(part, int):
                for wrong in (True, False, None, "0", (0,), [0]):
                    self.expect(with_part(LOG, place, wrong), False)

    def test_as_many_parts_as_told(self):
        for happening in (("key",), ("news",), ("touch",), ("touch", "cat"), ("touch", "cat", 0, 0), ("flag", "a"),
                          ("turn", 1), ("key", "a", "b"), ("start",), ("step",), ("rest",), ("born",), ("tell", "a"),
                          ("Flag",), ("touch", 0, "cat"), ("touch", None, 0)):
            self.expect([happening], False)

    def test_each_touched_one_is_there_then(self):
        self.expect([("touch", "cow", 0)], False)
        for number in (-1, 1, 2, 10 ** 20):
            self.expect([("touch", "cat", number)], False)
        self.expect([("flag",), ("touch", "cat", 1)], False)
        self.expect([("flag",), ("turn",), ("touch", "cat", 1)], True)
        self.expect([("flag",), ("turn",), ("touch", "cat", 2)], False)
        self.expect([("flag",), ("turn",), ("flag",), ("touch", "cat", 1)], False)
        self.expect([("flag",), ("turn",), ("touch", "cat", 1), ("touch", "cat", 1), ("turn",)], True)
        self.expect([("flag",), ("turn",), ("touch", "cat", 1), ("turn",), ("touch", "cat", 1)], False)

    def test_most_and_copies_count(self):
        log = [("flag",), ("turn",), ("touch", "dog", 1)]
        self.expect(log, True)
        for most, copies, wanted in ((3, 2, True), (2, 2, False), (100, 1, False), (100, 0, False), (500, 12, True)):
            self.expect(log, wanted, most=most, copies=copies)

    def test_nothing_is_changed(self):
        log = [*LOG, ["turn"]]
        shows_log(OURS, log)
        self.assertEqual(log, [*LOG, ["turn"]])

    def test_a_play_of_lists_may_be_handed_in_beside_it(self):
        self.assertIs(shows_log(as_lists(OURS), LOG), True)
        self.assertIs(shows_log(as_lists(OURS), [("touch", "cat", 1)]), False)

    def test_very_deep_and_very_many(self):
        deep = ()
        for _ in range(28):
            deep = (deep,)
        self.expect([deep], False)
        self.expect([1] * 2900, False)


class AsOf(unittest.TestCase):
    def test_as_behind_so_many_turns(self):
        stage = by_hand()
        for many, entries in ((0, 0), (1, 3), (2, 7), (3, 9)):
            then = as_of(stage, many)
            self.assertIsInstance(then, Stage)
            self.assertEqual(told_of(then), told_of(replay(OURS, LOG[:entries])))
            self.assertEqual((len(then), then.log()), (many, LOG[:entries]))

    def test_behind_none_a_new_one(self):
        self.assertEqual(told_of(as_of(by_hand(), 0)), told_of(Stage(OURS)))
        self.assertEqual(told_of(as_of(Stage(OURS), 0)), told_of(Stage(OURS)))

    def test_refused_where_fewer_are_over(self):
        for stage, many in ((by_hand(), 4), (by_hand(), 9), (Stage(OURS), 1)):
            before = told_of(stage)
            with self.assertRaises(NoTurn) as caught:
                as_of(stage, many)
            self.assertEqual(caught.exception.many, many)
            self.assertEqual(told_of(stage), before)

    def test_an_open_turn_is_none_yet(self):
        stage = by_hand()
        stage.start()
        stage.step()
        before = told_of(stage)
        self.assertEqual(as_of(stage, 3), replay(OURS, LOG[:9]))
        self.assertIs(as_of(stage, 3).is_open(), False)
        with self.assertRaises(NoTurn):
            as_of(stage, 4)
        self.assertEqual(told_of(stage), before)

    def test_of_its_most_and_copies(self):
        for most, copies in ((2, 1), (100, 0), (500, 12)):
            stage = replay(OURS, LOG[:3], most=most, copies=copies)
            self.assertEqual(as_of(stage, 1), stage)
            self.assertEqual(as_of(stage, 0), Stage(OURS, most=most, copies=copies))

    def test_it_goes_on_by_itself(self):
        stage = by_hand()
        before = told_of(stage)
        then = as_of(stage, 2)
        then.flag()
        then.turn()
        self.assertEqual(told_of(stage), before)

    def test_defined_in_this_file_and_by_names(self):
        for told, signature in ((replay, "(play, log, *, most=100, copies=6)"), (as_of, "(stage, many)"),
                                (shows_log, "(play, thing, *, most=100, copies=6)")):
            self.assertEqual(told.__module__, "figuredeeds.replays")
            self.assertEqual(str(inspect.signature(told)), signature)
        self.assertEqual(as_of(many=1, stage=replay(log=LOG, play=OURS)), replay(OURS, LOG[:3]))
        self.assertIs(shows_log(thing=LOG, play=OURS, most=100, copies=6), True)


if __name__ == "__main__":
    unittest.main()
