import inspect
import unittest

from figuredeeds import stage as stage_file
from figuredeeds.errors import BadPlay, NoOne, NotOpen, Open
from figuredeeds.stage import MOST_COPIES, MOST_ITEMS, Stage
from tests.plays_at_hand import (
    NO_PART, PLAY, RICH, as_lists, as_tuples, change_all_lists, figure, lists_within, part_at, places_in, play_of,
    script, with_part,
)
from tests.random_plays import Maker

WAIT = ("wait", 1000)
CAT = figure(
    "cat", script("flag", ("say", 1), ("copy", None), ("await", "tea"), ("say", 2), ("hide",)),
    script("news tea", ("wait", 1), ("add", "n", 1)), script("touch", ("move", 1), ("say", ("x",)), WAIT),
    script("born", ("turn", 1), ("say", ("over", 1, 0))), names=(("n", 0),), lists=(("bag", (4, 5)),))
DOG = figure("dog", script("flag", ("ever", (("move", 1),))), script("key up", ("put", "heap", 1)), spot=(0, 1, 0))
OURS = play_of(CAT, DOG, names=(("all", 3),), lists=(("heap", (9,)),))


def told_of(stage):
    """What a stage tells, each question once."""
    told = [stage.ones(), stage.names(), stage.lists(), stage.runs(), stage.state(), stage.seen(), stage.tale(),
            stage.tale(first=1), stage.log(), stage.log(first=1), len(stage), stage.is_open()]
    for name, number in stage.ones():
        told.append((stage.spot(name, number=number), stage.is_shown(name, number=number),
                     stage.names(figure=name, number=number), stage.lists(figure=name, number=number)))
    return told


def worked():
    """A stage with a copy, runs that wait, and a tale."""
    stage = Stage(OURS)
    stage.flag()
    stage.key("up")
    stage.turn()
    stage.touch("cat", number=1)
    return stage


class Made(unittest.TestCase):
    def test_at_first(self):
        stage = Stage(OURS)
        self.assertEqual(stage.ones(), [("cat", 0), ("dog", 0)])
        self.assertEqual((stage.spot("cat"), stage.spot("dog")), ((0, 0, 0), (0, 1, 0)))
        self.assertIs(stage.is_shown("cat"), True)
        self.assertEqual((stage.runs(), stage.tale(), stage.log(), len(stage)), ([], [], [], 0))
        self.assertEqual(stage.seen(), ((("cat", 0, 0, 0), ("dog", 0, 1, 0)), ()))
        self.assertIs(stage.is_open(), False)

    def test_what_stands_in_the_file(self):
        self.assertEqual((MOST_ITEMS, MOST_COPIES), (100, 6))
        self.assertEqual((stage_file.MOST_ITEMS, stage_file.MOST_COPIES), (100, 6))
        self.assertEqual(Stage.__module__, "figuredeeds.stage")
        wanted = {
            "__init__": "(self, play, *, most=100, copies=6)", "flag": "(self)", "key": "(self, name)",
            "touch": "(self, figure, *, number=0)", "news": "(self, name)", "turn": "(self)", "start": "(self)",
            "step": "(self)", "rest": "(self)", "is_open": "(self)", "ones": "(self)",
            "spot": "(self, figure, *, number=0)", "is_shown": "(self, figure, *, number=0)",
            "names": "(self, *, figure=None, number=0)", "lists": "(self, *, figure=None, number=0)", "runs": "(self)",
            "state": "(self)", "seen": "(self)", "tale": "(self, *, first=0)", "log": "(self, *, first=0)",
            "twin": "(self)",
        }
        for name, signature in wanted.items():
            self.assertEqual(str(inspect.signature(vars(Stage)[name])), signature)
        self.assertIn("__len__", vars(Stage))
        self.assertIn("__eq__", vars(Stage))

    def refused(self, play):
        with self.subTest(play=play):
            with self.assertRaises(BadPlay) as caught:
                Stage(play)
            self.assertEqual(caught.exception.play, play)
            self.assertIs(type(caught.exception.play), type(play))

    def test_what_is_no_play_is_refused(self):
        for thing in NO_PART:
            self.refused(thing)
        for play in (RICH[:3], with_part(RICH, (0, 0), 21), with_part(RICH, (3, 0, 1, 0), 5),
                     with_part(RICH, (3, 0, 5, 2, 1, 0), ("say", ("name", "none")))):
            self.refused(play)

    def test_a_list_is_no_play(self):
        self.refused(as_lists(OURS))
        for place in places_in(OURS):
            part = part_at(OURS, place)
            if isinstance(part, tuple):
                self.refused(with_part(OURS, place, list(part)))

    def test_most_and_copies_as_handed_in(self):
        play = play_of(figure("cat", script("flag", ("copy", None), ("copy", None), ("say", 1))))
        for most, copies, wanted in ((1, 0, ["fell full"]), (1, 2, ["came", "fell long"]),
                                     (2, 12, ["came", "came", "fell long"]), (500, 1, ["came", "fell full"]),
                                     (3, 2, ["came", "came", "said"]), (500, 12, ["came", "came", "said"])):
            stage = Stage(play, copies=copies, most=most)
            stage.flag()
            stage.turn()
            told = [f"fell {what}" if word == "fell" else word for _, _, _, word, what in stage.tale()]
            self.assertEqual(told, wanted)

    def test_by_names(self):
        stage = Stage(play=OURS, most=50, copies=3)
        stage.key(name="up")
        stage.news(name="tea")
        stage.touch(figure="cat", number=0)
        self.assertEqual(stage.spot(figure="cat", number=0), (0, 0, 0))
        self.assertIs(stage.is_shown(figure="cat", number=0), True)
        self.assertEqual(stage.log(first=1), [("news", "tea"), ("touch", "cat", 0)])
        for ask in (lambda: Stage(OURS, 5), lambda: stage.touch("cat", 0), lambda: stage.spot("cat", 0),
                    lambda: stage.is_shown("cat", 0), lambda: stage.names("cat"), lambda: stage.lists("cat"),
                    lambda: stage.tale(1), lambda: stage.log(1)):
            with self.assertRaises(TypeError):
                ask()


class Refused(unittest.TestCase):
    def falls(self, error, stage, ask, fields=None):
        """It is refused, and changes nothing."""
        before = told_of(stage)
        with self.assertRaises(error) as caught:
            ask()
        self.assertEqual(vars(caught.exception), fields or {})
        self.assertEqual(told_of(stage), before)

    def test_happenings_turn_and_start_in_an_open_turn(self):
        for steps in range(3):
            stage = worked()
            stage.start()
            for _ in range(steps):
                stage.step()
            for ask in (stage.flag, lambda: stage.key("up"), lambda: stage.touch("cat"), lambda: stage.news("tea"),
                        stage.turn, stage.start, lambda: stage.touch("cat", number=1)):
                self.falls(Open, stage, ask)
            stage.rest()
            stage.flag()

    def test_open_goes_ahead_of_no_one(self):
        stage = worked()
        stage.start()
        for ask in (lambda: stage.touch("cow"), lambda: stage.touch("cat", number=9)):
            self.falls(Open, stage, ask)

    def test_step_and_rest_with_none_open(self):
        stage = Stage(OURS)
        self.falls(NotOpen, stage, stage.step)
        self.falls(NotOpen, stage, stage.rest)
        stage.start()
        self.assertIsNone(stage.step())
        self.falls(NotOpen, stage, stage.step)
        stage.flag()
        stage.turn()
        self.falls(NotOpen, stage, stage.rest)
        stage.start()
        stage.rest()
        self.falls(NotOpen, stage, stage.step)

    def test_ones_that_are_not_there(self):
        for is_open in (False, True):
            stage = worked()
            if is_open:
                stage.start()
            for name, number in (("cow", 0), ("cow", 1), ("cat", 2), ("dog", 1), ("cat", -1), ("", 0), ("CAT", 0)):
                fields = {"figure": name, "number": number}
                asks = [lambda: stage.spot(name, number=number), lambda: stage.is_shown(name, number=number),
                        lambda: stage.names(figure=name, number=number),
                        lambda: stage.lists(figure=name, number=number)]
                if not is_open:
                    asks.append(lambda: stage.touch(name, number=number))
                for ask in asks:
                    self.falls(NoOne, stage, ask, fields)
            self.falls(NoOne, stage, lambda: stage.spot("cow"), {"figure": "cow", "number": 0})

    def test_a_copy_that_is_gone(self):
        stage = worked()
        self.assertEqual(stage.spot("cat", number=1), (0, 0, 0))
        stage.flag()
        for ask in (lambda: stage.spot("cat", number=1), lambda: stage.touch("cat", number=1)):
            self.falls(NoOne, stage, ask, {"figure": "cat", "number": 1})

    def test_of_none_those_of_all_whatever_number(self):
        stage = worked()
        for number in (0, 1, 7, -3):
            self.assertEqual(stage.names(figure=None, number=number), [("all", 3)])
            self.assertEqual(stage.lists(number=number), [("heap", [9, 1])])


class Turns(unittest.TestCase):
    def test_start_step_and_rest(self):
        stage = Stage(OURS)
        stage.flag()
        stage.key("up")
        self.assertIsNone(stage.start())
        self.assertIs(stage.is_open(), True)
        self.assertEqual(stage.step(), ("cat", 0, 0))
        self.assertEqual(stage.step(), ("dog", 0, 0))
        self.assertEqual((len(stage), stage.log()), (0, [("flag",), ("key", "up")]))
        self.assertEqual(stage.step(), ("dog", 0, 1))
        self.assertIs(stage.is_open(), True)
        self.assertIsNone(stage.step())
        self.assertIs(stage.is_open(), False)
        self.assertEqual((len(stage), stage.log()), (1, [("flag",), ("key", "up"), ("turn",)]))

    def test_rest_tells_how_many_were_left(self):
        for steps in range(4):
            stage = Stage(OURS)
            stage.flag()
            stage.key("up")
            stage.start()
            for _ in range(steps):
                stage.step()
            self.assertEqual(stage.rest(), 3 - steps)
            self.assertEqual((stage.is_open(), len(stage)), (False, 1))

    def test_step_tells_whose_go_it_was_also_of_who_is_gone(self):
        stage = Stage(play_of(figure("cat", script("flag", ("copy", None)), script("born", ("end",)))))
        stage.flag()
        stage.turn()
        stage.start()
        self.assertEqual([stage.step(), stage.step()], [("cat", 1, 1), None])

    def test_a_step_is_one_go_and_those_that_are_over_are_passed_by(self):
        stage = Stage(play_of(figure("cat", script("flag", ("say", 1), ("stop", "others")), script("flag", ("say", 2)),
                                     script("flag", ("say", 3))), figure("dog", script("flag", ("say", 4)))))
        stage.flag()
        stage.start()
        self.assertEqual((stage.step(), stage.step(), stage.step()), (("cat", 0, 0), ("dog", 0, 0), None))
        self.assertEqual(stage.seen()[1], (("cat", 1), ("dog", 4)))

    def test_turn_is_start_and_rest_and_steps(self):
        for seed in range(80):
            maker = Maker(seed)
            stage = Stage(maker.play(), most=maker.one_of(5, 20, 100), copies=maker.one_of(0, 2, 6))
            for _ in range(25):
                maker.happen(stage)
                whole, parts, single = stage.twin(), stage.twin(), stage.twin()
                goes = whole.turn()
                parts.start()
                early = maker.chance.randint(0, 3)
                done = [parts.step() for _ in range(early) if parts.is_open()]
                many = len([step for step in done if step is not None])
                if parts.is_open():
                    many += parts.rest()
                single.start()
                steps = []
                while single.is_open():
                    steps.append(single.step())
                self.assertIsNone(steps.pop())
                self.assertEqual((many, len(steps)), (goes, goes))
                self.assertEqual(told_of(parts), told_of(whole))
                self.assertEqual(told_of(single), told_of(whole))

    def test_where_nothing_is_said_to_be_told_none_is(self):
        stage = Stage(OURS)
        for ask in (stage.flag, lambda: stage.key("up"), lambda: stage.touch("cat"), lambda: stage.news("tea"),
                    stage.start):
            self.assertIsNone(ask())


class Told(unittest.TestCase):
    def test_runs(self):
        stage = worked()
        self.assertEqual(stage.runs(), [
            ("cat", 0, 0, (("ended",), ("say", 2), ("hide",)), (), (3, 4)),
            ("dog", 0, 0, (("ever", (("move", 1),)),), (), ()),
            ("cat", 1, 3, (("turn", 1), ("say", ("over", 1, 0))), (), ()),
            ("cat", 0, 1, (("wait", 1), ("add", "n", 1)), (), ()),
            ("cat", 1, 1, (("wait", 1), ("add", "n", 1)), (), ()),
            ("cat", 1, 2, (("move", 1), ("say", ("x",)), WAIT), (), ()),
        ])

    def test_state(self):
        stage = worked()
        runs = tuple(stage.runs())
        self.assertEqual(stage.state(), (
            (("all", 3),), (("heap", (9, 1)),),
            (("cat", 0, (0, 0, 0), True, (("n", 0),), (("bag", (4, 5)),)),
             ("cat", 1, (0, 0, 0), True, (("n", 0),), (("bag", (4, 5)),)),
             ("dog", 0, (1, 1, 0), True, (), ())),
            runs))
        self.assertEqual(lists_within(stage.state()), [])
        self.assertEqual(Stage(PLAY).state()[2][2], ("owl", 0, (1, 2, 3), True, (("score", -7),),
                                                     (("bag", ()), ("hoard", (1, 2, 3, 4, 5, 6, 7, 8)))))

    def test_seen(self):
        stage = worked()
        shown = (("cat", 0, 0, 0), ("cat", 0, 0, 0), ("dog", 1, 1, 0))
        self.assertEqual(stage.seen(), (shown, (("cat", 1),)))
        stage.start()
        self.assertEqual(stage.seen(), (shown, ()))
        for _ in range(6):
            stage.step()
        self.assertEqual(stage.seen(), ((("cat", 0, 0, 0), ("cat", 0, 1, 1), ("dog", 2, 1, 0)), (("cat", 0),)))
        stage.rest()
        self.assertEqual(stage.seen()[1], (("cat", 0),))
        stage.key("up")
        self.assertEqual(stage.seen()[1], (("cat", 0),))
        stage.turn()
        self.assertEqual(stage.seen()[1], ())
        stage.turn()
        self.assertEqual(stage.seen()[1], (("cat", 2),))
        self.assertEqual([row[0] for row in stage.seen()[0]], ["cat", "dog"])
        self.assertEqual(lists_within(stage.seen()), [])

    def test_what_was_said_is_of_the_last_turn_also_behind_the_flag(self):
        stage = Stage(play_of(figure("cat", script("flag", ("say", 7)))))
        stage.flag()
        self.assertEqual(stage.seen()[1], ())
        stage.turn()
        stage.flag()
        self.assertEqual(stage.seen()[1], (("cat", 7),))

    def test_tale(self):
        stage = worked()
        stage.turn()
        stage.flag()
        wanted = [(0, "cat", 0, "said", 1), (0, "cat", 1, "came", None), (1, "cat", 1, "fell", "nought"),
                  (1, "cat", 1, "said", 0), (2, "cat", 1, "went", None)]
        self.assertEqual(stage.tale(), wanted)
        for first in range(8):
            self.assertEqual(stage.tale(first=first), wanted[first:])

    def test_several_that_go_at_once_go_in_the_order_of_ones(self):
        stage = Stage(play_of(figure("cat", script("touch", ("copy", "dog"), ("copy", "cat"))), figure("dog")))
        for _ in range(2):
            stage.touch("cat")
            stage.turn()
        stage.flag()
        self.assertEqual([entry[1:3] for entry in stage.tale()],
                         [("dog", 1), ("cat", 1), ("dog", 2), ("cat", 2),
                          ("cat", 1), ("cat", 2), ("dog", 1), ("dog", 2)])
        self.assertEqual([entry[0] for entry in stage.tale()], [0, 0, 1, 1, 2, 2, 2, 2])

    def test_log(self):
        stage = worked()
        stage.news("tea")
        stage.key("nokey")
        stage.touch("dog")
        stage.start()
        stage.step()
        wanted = [("flag",), ("key", "up"), ("turn",), ("touch", "cat", 1), ("news", "tea"), ("key", "nokey"),
                  ("touch", "dog", 0)]
        self.assertEqual(stage.log(), wanted)
        stage.rest()
        wanted.append(("turn",))
        for first in range(11):
            self.assertEqual(stage.log(first=first), wanted[first:])

    def test_kinds_of_what_is_told(self):
        stage = worked()
        for row in (stage.ones(), stage.names(), stage.lists(), stage.runs(), stage.tale(), stage.log(),
                    stage.lists()[0][1], stage.names(figure="cat"), stage.lists(figure="cat")):
            self.assertIs(type(row), list)
        for thing in (stage.ones()[0], stage.names()[0], stage.lists()[0], stage.runs()[0], stage.tale()[0],
                      stage.log()[0], stage.state(), stage.seen(), stage.spot("cat")):
            self.assertIs(type(thing), tuple)
        self.assertIs(type(stage.is_shown("cat")), bool)
        self.assertEqual(lists_within(tuple(stage.runs() + stage.tale() + stage.log())), [])

    def test_the_same_question_is_told_the_same_and_told_lists_are_the_askers_own(self):
        for is_open in (False, True):
            stage = worked()
            if is_open:
                stage.start()
                stage.step()
            before = told_of(stage)
            told = told_of(stage)
            self.assertEqual(told, before)
            found = lists_within([told, before, told_of(stage.twin())])
            self.assertEqual(len({id(row) for row in found}), len(found))
            change_all_lists(told)
            self.assertEqual(told_of(stage), before)


class Alike(unittest.TestCase):
    def test_same_play_most_copies_and_state(self):
        self.assertTrue(worked() == worked())
        self.assertFalse(worked() != worked())
        self.assertEqual(Stage(OURS), Stage(as_tuples(as_lists(OURS))))

    def test_what_parts_them(self):
        self.assertNotEqual(Stage(OURS), Stage(OURS, most=99))
        self.assertNotEqual(Stage(OURS), Stage(OURS, copies=5))
        self.assertNotEqual(Stage(OURS), Stage(RICH))
        self.assertNotEqual(Stage(OURS), Stage(with_part(OURS, (3, 1, 5, 1, 1), ())))
        for change in (lambda stage: stage.flag(), lambda stage: stage.news("tea"), lambda stage: stage.turn(),
                       lambda stage: stage.touch("cat")):
            stage = worked()
            change(stage)
            self.assertFalse(stage == worked())
            self.assertTrue(stage != worked())

    def test_the_awaited_part_them(self):
        play = play_of(figure("cat", script("key a", ("await", "tea"), WAIT), script("news tea", WAIT)))
        first, second = Stage(play), Stage(play)
        first.key("a")
        second.key("a")
        first.turn()
        second.turn()
        self.assertEqual(first, second)
        second.news("tea")
        self.assertEqual([run[:5] for run in first.runs()], [run[:5] for run in second.runs()])
        self.assertNotEqual(first, second)

    def test_the_way_there_does_not_part_them(self):
        first, second = worked(), worked()
        first.key("left")
        self.assertNotEqual(first.log(), second.log())
        self.assertEqual(first, second)
        third, fourth = Stage(OURS), Stage(OURS)
        third.turn()
        self.assertEqual(third, fourth)
        self.assertNotEqual(len(third), len(fourth))

    def test_no_matter_whether_a_turn_is_open(self):
        first, second = worked(), worked()
        first.start()
        self.assertTrue(first == second)
        self.assertTrue(second == first)
        first.step()
        self.assertEqual(first, second)
        first.step()
        self.assertNotEqual(first, second)

    def test_nothing_else_is_like_a_stage(self):
        for thing in (None, 0, True, "stage", OURS, [], (), Stage, worked().state()):
            self.assertFalse(Stage(OURS) == thing)
            self.assertTrue(Stage(OURS) != thing)


class Twins(unittest.TestCase):
    def test_a_twin_tells_the_same(self):
        for steps in (None, 0, 1, 3, 6):
            stage = worked()
            if steps is not None:
                stage.start()
                for _ in range(steps):
                    stage.step()
            twin = stage.twin()
            self.assertIsInstance(twin, Stage)
            self.assertIsNot(twin, stage)
            self.assertEqual(twin, stage)
            self.assertEqual(told_of(twin), told_of(stage))
            before = told_of(stage)
            if steps is not None:
                self.assertEqual(twin.step(), worked_step(steps))
            if twin.is_open():
                twin.rest()
            for _ in range(3):
                twin.turn()
            twin.flag()
            twin.turn()
            self.assertEqual(told_of(stage), before)

    def test_twins_go_on_by_themselves(self):
        for seed in range(80):
            maker = Maker(seed)
            stage = Stage(maker.play(), most=maker.one_of(3, 30, 100), copies=maker.one_of(0, 3, 12))
            for _ in range(12):
                maker.happen(stage)
            if maker.one_of(True, False):
                stage.start()
                for _ in range(maker.chance.randint(0, 2)):
                    if stage.is_open():
                        stage.step()
            twin, before = stage.twin(), told_of(stage)
            self.assertEqual(told_of(twin), before)
            self.go_on(twin)
            self.assertEqual(told_of(stage), before)
            after = told_of(twin)
            self.go_on(stage)
            self.assertEqual(told_of(stage), after)
            self.assertEqual(told_of(twin), after)

    def go_on(self, stage):
        if stage.is_open():
            stage.rest()
        for happen in (lambda: stage.key("up"), stage.turn, lambda: stage.news("tea"), stage.turn,
                       lambda: stage.touch(stage.ones()[-1][0], number=stage.ones()[-1][1]), stage.turn, stage.turn,
                       stage.flag, stage.turn):
            happen()

    def test_most_and_copies_go_with_it(self):
        stage = Stage(play_of(figure("cat", script("flag", ("copy", None), ("show",), ("show",)))), most=2, copies=1)
        twin = stage.twin()
        twin.flag()
        twin.turn()
        self.assertEqual([entry[3:] for entry in twin.tale()], [("came", None), ("fell", "long")])
        self.assertEqual(stage.tale(), [])


def worked_step(steps):
    """Whose go comes behind so many in the worked stage."""
    stage = worked()
    stage.start()
    for _ in range(steps):
        stage.step()
    return stage.step()


class Order(unittest.TestCase):
    """What holds of each stage at all times."""

    def check(self, stage):
        ones = stage.ones()
        runs = stage.runs()
        figures = [name for name, number in ones if number == 0]
        self.assertEqual(ones, sorted(ones, key=lambda one: (figures.index(one[0]), one[1])))
        for at, (name, number, place, rest, frames, awaited) in enumerate(runs):
            self.assertIn((name, number), ones)
            self.assertLessEqual(len(frames), 6)
            # Between goes no run is in a closed piece, and whom it waits for was begun behind it.
            self.assertNotIn("closed", [kind for kind, _ in frames])
            self.assertTrue(all(at < other < len(runs) for other in awaited))
            if awaited:
                self.assertEqual(rest[0], ("ended",))
        self.assertEqual(len({run[:3] for run in runs}), len(runs))
        self.assertEqual(lists_within(tuple(runs)), [])

    def test_it_is_in_order_behind_each_step(self):
        words = set()
        for seed in range(200):
            maker = Maker(seed)
            stage = Stage(maker.play(), most=maker.one_of(1, 7, 100, 500), copies=maker.one_of(0, 1, 6, 12))
            for _ in range(30):
                maker.happen(stage)
                self.check(stage)
                stage.start()
                due = [run[:3] for run in stage.runs()]
                while stage.is_open():
                    step = stage.step()
                    if step is not None:
                        self.assertIn(step, due)
                        due = due[due.index(step) + 1:]
                    self.check(stage)
            words |= {entry[4] for entry in stage.tale() if entry[3] == "fell"}
        self.assertEqual(words, {"none", "nought", "far", "full", "closed", "deep", "long"})


if __name__ == "__main__":
    unittest.main()
