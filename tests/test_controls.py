import inspect
import itertools
import unittest

from figuredeeds.controls import unrolled
from figuredeeds.errors import Fell
from tests.plays_at_hand import as_lists, as_tuples, lists_within

MOST = 1000000
EYES = ([("one", 1), ("none", 0), ("one", 9)], [("bag", [4, 6])], (3, 2, 1, 0), ["dog"])
YES, NO = ("meets", "dog"), ("meets", "owl")
FALLING = (("none", ("name", "missing")), ("nought", ("over", 1, 0)), ("far", ("plus", MOST, 1)))
SHOW, HIDE, SAY = ("show",), ("hide",), ("say", 5)
REST = (("move", 1), ("ever", (SHOW,)))
PIECES = (
    ("hop", "open", (), (SHOW, HIDE)),
    ("skip", "closed", ("a", "b"), (SAY,)),
    ("bare", "open", ("a",), ()),
)
OPEN = ("open", (("a", 1),))
CLOSED = ("closed", ())
OPEN_FRAMES = ((), (OPEN,), (OPEN, ("open", ())), (OPEN,) * 6)
CLOSED_FRAMES = tuple(
    tuple(CLOSED if at in closed else OPEN for at in range(many))
    for many in range(1, 5) for size in range(1, many + 1) for closed in itertools.combinations(range(many), size))


class Controls(unittest.TestCase):
    def comes(self, item, items, gives, frames=None, after=None):
        """An item becomes these items ahead of whatever rest; of no frames told, the frames stay whatever they are."""
        all_frames = OPEN_FRAMES if frames is None else (frames,)
        for behind in ((), REST):
            for before in all_frames:
                wanted = (items + behind, before if after is None else after, gives)
                for handed in (lambda thing: thing, as_lists):
                    with self.subTest(item=item, frames=before):
                        told = unrolled(handed((item, *behind)), handed(before), handed(EYES), handed(PIECES))
                        self.assertEqual(told, wanted)
                        self.assertIs(type(told[2]), bool)
                        self.assertEqual(lists_within(told), [])

    def falls(self, word, item, frames=()):
        for behind in ((), REST):
            for handed in (lambda thing: thing, as_lists):
                with self.subTest(item=item, frames=frames):
                    with self.assertRaises(Fell) as caught:
                        unrolled(handed((item, *behind)), handed(frames), handed(EYES), handed(PIECES))
                    self.assertEqual(caught.exception.word, word)


class Wait(Controls):
    def test_below_one_it_goes(self):
        for look in (0, -1, -MOST, ("name", "none"), ("minus", ("x",), 3)):
            self.comes(("wait", look), (), False)

    def test_else_it_stays_with_one_less_and_gives(self):
        for look, left in ((1, 0), (2, 1), (MOST, MOST - 1), (("name", "one"), 0), (("item", "bag", 1), 5)):
            self.comes(("wait", look), (("wait", left),), True)

    def test_closed(self):
        for frames in CLOSED_FRAMES:
            self.comes(("wait", 0), (), False, frames)
            self.comes(("wait", -3), (), False, frames)
            self.falls("closed", ("wait", 1), frames)
            self.falls("closed", ("wait", ("x",)), frames)

    def test_looks_fall_ahead_of_closed(self):
        for word, look in FALLING:
            for frames in ((), (CLOSED,), (CLOSED, OPEN)):
                self.falls(word, ("wait", look), frames)

    def test_a_wait_to_its_end(self):
        rest, gone = (("wait", 3), SHOW), 0
        while rest[0][0] == "wait":
            rest, frames, gives = unrolled(rest, (), EYES, ())
            gone += gives
        self.assertEqual((rest, gone), ((SHOW,), 3))


class Until(Controls):
    def test_it_goes_where_the_test_holds(self):
        for test in (YES, ("not", NO), ("like", ("name", "one"), 1)):
            self.comes(("until", test), (), False)

    def test_else_it_stays_and_gives(self):
        for test in (NO, ("not", YES), ("like", ("name", "one"), 9)):
            self.comes(("until", test), (("until", test),), True)

    def test_closed(self):
        for frames in CLOSED_FRAMES:
            self.comes(("until", YES), (), False, frames)
            self.falls("closed", ("until", NO), frames)

    def test_looks_fall_ahead_of_closed(self):
        for word, look in FALLING:
            for frames in ((), (CLOSED,), (OPEN, CLOSED)):
                self.falls(word, ("until", ("like", look, 1)), frames)
                self.falls(word, ("until", ("both", YES, ("below", 1, look))), frames)
            self.comes(("until", ("any", YES, ("like", look, 1))), (), False)


class Blocks(Controls):
    def test_if(self):
        for first, second in (((SHOW, SAY), (HIDE,)), ((), (HIDE,)), ((SHOW,), ()), ((), ())):
            for frames in (None, (CLOSED,), (CLOSED, OPEN)):
                self.comes(("if", YES, first, second), first, False, frames)
                self.comes(("if", NO, first, second), second, False, frames)

    def test_times(self):
        for block in ((), (SHOW,), (SHOW, ("times", 2, (HIDE,)))):
            for frames in (None, (CLOSED,)):
                for look in (0, -1, -MOST, ("name", "none")):
                    self.comes(("times", look, block), (), False, frames)
                for look, left in ((1, 0), (3, 2), (MOST, MOST - 1), (("name", "one"), 0), (("x",), 2)):
                    again = ("round", ("times", left, block))
                    self.comes(("times", look, block), block + (again,), False, frames)

    def test_while(self):
        for block in ((), (SHOW,), (SHOW, ("wait", 2))):
            for frames in (None, (CLOSED,)):
                self.comes(("while", NO, block), (), False, frames)
                deed = ("while", YES, block)
                self.comes(deed, block + (("round", deed),), False, frames)

    def test_ever(self):
        for block in ((), (SHOW,), (SHOW, ("ever", (HIDE,)))):
            for frames in (None, (CLOSED,)):
                deed = ("ever", block)
                self.comes(deed, block + (("round", deed),), False, frames)

    def test_round(self):
        for deed in (("times", 2, (SHOW,)), ("while", NO, ()), ("ever", (SHOW,)), ("times", 0, (SHOW,))):
            self.comes(("round", deed), (deed,), True)
            for frames in CLOSED_FRAMES:
                self.comes(("round", deed), (deed,), False, frames)

    def test_they_fall_as_their_looks(self):
        for word, look in FALLING:
            for frames in ((), (CLOSED,)):
                self.falls(word, ("if", ("like", 1, look), (SHOW,), (HIDE,)), frames)
                self.falls(word, ("times", look, (SHOW,)), frames)
                self.falls(word, ("while", ("below", look, 1), (SHOW,)), frames)

    def test_nothing_is_looked_at_but_what_is_told(self):
        for _, look in FALLING:
            bad = (("say", look), ("wait", look))
            self.comes(("if", YES, bad, bad), bad, False)
            self.comes(("ever", bad), bad + (("round", ("ever", bad)),), False)
            self.comes(("round", ("times", look, bad)), (("times", look, bad),), True)
            self.comes(("times", 0, bad), (), False)


class Pieces(Controls):
    def test_do(self):
        for frames in ((), (OPEN,), (CLOSED,), (OPEN, CLOSED, OPEN), (OPEN,) * 5):
            self.comes(("do", "hop", ()), (SHOW, HIDE, ("out",)), False, frames, frames + (("open", ()),))
            self.comes(("do", "skip", (("x",), -4)), (SAY, ("out",)), False, frames,
                       frames + (("closed", (("a", 3), ("b", -4))),))
            self.comes(("do", "bare", (("item", "bag", 0),)), (("out",),), False, frames,
                       frames + (("open", (("a", 4),)),))

    def test_six_frames_and_a_seventh(self):
        for many in range(9):
            for frames in ((OPEN,) * many, (CLOSED,) * many):
                for item in (("do", "hop", ()), ("do", "skip", (1, 2))):
                    if many >= 6:
                        self.falls("deep", item, frames)
                    else:
                        told = unrolled((item,), frames, EYES, PIECES)
                        self.assertEqual(len(told[1]), many + 1)

    def test_looks_fall_ahead_of_deep_from_the_first_on(self):
        for (word, first), (other, second) in itertools.product(FALLING, FALLING):
            for frames in ((), (OPEN,) * 6, (CLOSED,) * 7):
                self.falls(word, ("do", "skip", (first, second)), frames)
                self.falls(other, ("do", "skip", (1, second)), frames)
                self.falls(word, ("do", "bare", (first,)), frames)

    def test_out(self):
        self.comes(("out",), (), False, (OPEN,), ())
        self.comes(("out",), (), False, (CLOSED,), ())
        self.comes(("out",), (), False, (OPEN, CLOSED), (OPEN,))
        self.comes(("out",), (), False, (CLOSED, OPEN), (CLOSED,))
        self.comes(("out",), (), False, (OPEN,) * 6, (OPEN,) * 5)

    def test_in_and_out_again(self):
        rest, frames, _ = unrolled((("do", "bare", (7,)), SHOW), (OPEN,), EYES, PIECES)
        self.assertEqual(unrolled(rest, frames, EYES, PIECES), ((SHOW,), (OPEN,), False))

    def test_the_piece_of_that_name_wherever_it_stands(self):
        for pieces in itertools.permutations(PIECES):
            told = unrolled((("do", "hop", ()),), (), EYES, pieces)
            self.assertEqual(told, ((SHOW, HIDE, ("out",)), (("open", ()),), False))


class HandedIn(unittest.TestCase):
    def test_looks_read_by_the_eyes_handed_in(self):
        for value in (1, 4):
            eyes = ([("a", value)], [], (0, 0, 0, 0), [])
            self.assertEqual(unrolled((("wait", ("name", "a")),), (("open", (("a", value),)),), eyes, ())[0],
                             (("wait", value - 1),))

    def test_nothing_is_changed_or_kept(self):
        for item in (("wait", 2), ("until", NO), ("if", YES, (SHOW,), (HIDE,)), ("times", 2, (SHOW,)), ("out",),
                     ("while", YES, (SHOW,)), ("ever", (SHOW,)), ("round", ("ever", (SHOW,))), ("do", "skip", (1, 2))):
            handed = (as_lists((item, *REST)), as_lists((OPEN, OPEN)), as_lists(as_tuples(EYES)), as_lists(PIECES))
            told = unrolled(*handed)
            self.assertEqual(handed, (as_lists((item, *REST)), as_lists((OPEN, OPEN)), as_lists(as_tuples(EYES)),
                                      as_lists(PIECES)))
            wanted = unrolled((item, *REST), (OPEN, OPEN), EYES, PIECES)
            for row in lists_within(list(handed)):
                row.clear()
            self.assertEqual(told, wanted)

    def test_what_was_told_may_be_handed_in_whatever_its_size(self):
        rest, frames = (("ever", (SHOW,) * 8),) + (SHOW,) * 200, ()
        for _ in range(50):
            rest, frames, _ = unrolled((("if", YES, (SHOW,) * 8, ()), *rest), frames, EYES, PIECES)
        self.assertEqual(len(rest), 601)
        frames = (OPEN,) * 40
        self.assertEqual(unrolled((("out",), *rest), frames, EYES, PIECES), (rest, frames[1:], False))

    def test_defined_in_this_file_and_by_names(self):
        self.assertEqual(unrolled.__module__, "figuredeeds.controls")
        self.assertEqual(str(inspect.signature(unrolled)), "(rest, frames, eyes, pieces)")
        self.assertEqual(unrolled(pieces=(), eyes=EYES, frames=(), rest=(("wait", 1),)), ((("wait", 0),), (), True))


if __name__ == "__main__":
    unittest.main()
