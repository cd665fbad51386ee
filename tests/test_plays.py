import inspect
import unittest

from figuredeeds.plays import is_play
from tests.plays_at_hand import (
    FOX, HEN, NO_PART, PLAY, RICH, as_lists, figure, part_at, places_in, play_of, script, with_part,
)

MOST = 1000000
LETTERS = "abcdefghijklmnopqrstuvwxyz"
HATS = [("flag",), ("key", "up"), ("news", "dawn"), ("touch",), ("born",)]


def with_scripts(*deeds, **more):
    """A play of two figures, the first of which has a script of these deeds."""
    return play_of(figure("cat", script("flag", *deeds), **more), figure("dog"), names=(("all", 1),),
                   lists=(("heap", (1,)),))


def with_piece(*deeds, params=("far",), **more):
    """A play of two figures, the first of which has a piece of these deeds."""
    return with_scripts(pieces=(("hop", "open", params, deeds),), **more)


class Asked(unittest.TestCase):
    def expect(self, thing, wanted):
        with self.subTest(thing=thing):
            self.assertIs(is_play(thing), wanted)


class Shape(Asked):
    def test_plays(self):
        for play in (PLAY, RICH, play_of(HEN), play_of(HEN, FOX, names=(("all", 1),), lists=(("heap", ()),))):
            self.expect(play, True)

    def test_things_of_any_kind(self):
        for thing in NO_PART + [()]:
            self.expect(thing, False)
            for at in range(4):
                if (at, thing) not in ((1, ()), (2, ())):
                    self.expect(with_part(RICH, (at,), thing), False)
        for thing in NO_PART:
            for at in range(6):
                if not (at == 0 and thing in ("a", "flag", "turn", "stop")):
                    self.expect(with_part(play_of(HEN), (3, 0, at), thing), False)

    def test_as_many_parts_as_told(self):
        self.expect(RICH[:3], False)
        self.expect(RICH + ((),), False)
        self.expect(play_of(HEN[:5]), False)
        self.expect(play_of(HEN + ((),)), False)

    def test_no_list_for_a_tuple_anywhere(self):
        self.expect(as_lists(RICH), False)
        for place in places_in(RICH):
            part = part_at(RICH, place)
            if isinstance(part, tuple):
                for wrong in (list(part), None, "a", part + (None,)):
                    self.expect(with_part(RICH, place, wrong), False)

    def test_no_true_or_false_for_a_number_anywhere(self):
        for place in places_in(RICH):
            if isinstance(part_at(RICH, place), int):
                for wrong in (True, False, None, "1", MOST + 1, -MOST - 1, (1,)):
                    self.expect(with_part(RICH, place, wrong), False)

    def test_no_other_text_for_a_word_anywhere(self):
        for place in places_in(RICH):
            if isinstance(part_at(RICH, place), str):
                for wrong in ("", "A", "abcdefghi", 5, ("a",), ["a"]):
                    self.expect(with_part(RICH, place, wrong), False)

    def test_grounds_of_one_to_twenty(self):
        for many in (-1, 0, 1, 2, 19, 20, 21, 22, True):
            wanted = many is not True and 1 <= many <= 20
            self.expect(play_of(HEN, size=(many, 1)), wanted)
            self.expect(play_of(HEN, size=(1, many)), wanted)
        self.expect(play_of(HEN, size=(20, 20)), True)
        for size in ((), (1,), (1, 1, 1), [1, 1], 1, None, "11"):
            self.expect(play_of(HEN, size=size), False)

    def test_spots(self):
        for x in (-1, 0, 4, 5, 6):
            self.expect(play_of(figure("cat", spot=(x, 0, 0))), 0 <= x < 5)
        for y in (-1, 0, 3, 4, 5):
            self.expect(play_of(figure("cat", spot=(0, y, 0))), 0 <= y < 4)
        for way in (-1, 0, 1, 2, 3, 4, 5):
            self.expect(play_of(figure("cat", spot=(0, 0, way))), 0 <= way <= 3)
        self.expect(play_of(figure("cat", spot=(4, 3, 3))), True)
        self.expect(play_of(figure("cat", spot=(0, 0, 0)), size=(1, 1)), True)
        for spot in ((), (0, 0), (0, 0, 0, 0), [0, 0, 0], None, (0, 0, True), (False, 0, 0), (0, None, 0)):
            self.expect(play_of(figure("cat", spot=spot)), False)

    def test_one_to_four_figures(self):
        for many in range(7):
            self.expect(play_of(*[figure(letter) for letter in LETTERS[:many]]), 1 <= many <= 4)

    def test_figures_are_unlike(self):
        self.expect(play_of(figure("cat"), figure("dog"), figure("cat")), False)
        self.expect(play_of(figure("cat"), figure("cat", spot=(1, 1, 1))), False)

    def test_names_of_figures(self):
        for name in ("a", "abcdefgh"):
            self.expect(play_of(figure(name)), True)
        for name in ("", "abcdefghi", "Cat", "c t", "cat1", 1, None, True, ("cat",), ["cat"]):
            self.expect(play_of(figure(name)), False)

    def both(self, names=(), lists=()):
        """A play that has these for all, and one whose figure has them."""
        return [play_of(HEN, names=names, lists=lists), play_of(figure("cat", names=names, lists=lists))]

    def test_four_names_at_most(self):
        for many in range(7):
            names = tuple((letter, 1) for letter in LETTERS[:many])
            for play in self.both(names=names):
                self.expect(play, many <= 4)

    def test_two_lists_at_most(self):
        for many in range(5):
            lists = tuple((letter, (1,)) for letter in LETTERS[:many])
            for play in self.both(lists=lists):
                self.expect(play, many <= 2)

    def test_eight_values_at_most(self):
        for many in range(12):
            for play in self.both(lists=(("bag", (5,) * many),)):
                self.expect(play, many <= 8)

    def test_values(self):
        for value in (-MOST, -1, 0, MOST, -MOST - 1, MOST + 1, True, False, None, "1", (1,), ("x",)):
            wanted = value in (-MOST, -1, 0, MOST) and value is not False
            for play in self.both(names=(("a", value),)) + self.both(lists=(("a", (1, value)),)):
                self.expect(play, wanted)

    def test_names_and_lists_are_unlike_each(self):
        for names in ((("a", 1), ("a", 1)), (("a", 1), ("b", 1), ("a", 2))):
            for play in self.both(names=names):
                self.expect(play, False)
        for play in self.both(lists=(("a", ()), ("a", (1,)))):
            self.expect(play, False)
        for play in self.both(names=(("a", 1), ("b", 2)), lists=(("a", ()), ("b", ()))):
            self.expect(play, True)

    def test_alike_in_the_figure_and_for_all(self):
        names, lists = (("a", 1),), (("b", ()),)
        self.expect(play_of(figure("a", names=names, lists=lists), figure("b", names=names, lists=lists),
                            names=names, lists=lists), True)

    def test_what_is_no_pair(self):
        for pair in (("a",), ("a", 1, 1), ("A", 1), (1, 1), ["a", 1], "a1", None, (("a",), 1)):
            for play in self.both(names=(pair,)):
                self.expect(play, False)
        for pair in (("a",), ("a", (1,), 1), ("", (1,)), ("a", [1]), ["a", (1,)], ("a", 1), ("a", None), None):
            for play in self.both(lists=(pair,)):
                self.expect(play, False)

    def test_three_pieces_at_most(self):
        for many in range(6):
            pieces = tuple((letter, "open", (), ()) for letter in LETTERS[:many])
            self.expect(play_of(figure("cat", pieces=pieces)), many <= 3)

    def test_pieces_are_unlike_in_a_figure(self):
        piece, other = ("hop", "open", (), ()), ("hop", "closed", ("a",), ())
        self.expect(play_of(figure("cat", pieces=(piece, other))), False)
        self.expect(play_of(figure("cat", pieces=(piece,)), figure("dog", pieces=(other,))), True)

    def test_kinds_of_pieces(self):
        for kind in ("open", "closed", "", "shut", "Open", None, True, 1, ("open",), ["open"]):
            self.expect(play_of(figure("cat", pieces=(("hop", kind, (), ()),))), kind in ("open", "closed"))

    def test_two_unlike_params_at_most(self):
        for params in ((), ("a",), ("a", "b"), ("abcdefgh",)):
            self.expect(play_of(figure("cat", pieces=(("hop", "open", params, ()),))), True)
        for params in (("a", "b", "c"), ("a", "a"), ("A",), ("",), (1,), (None,), [], ["a"], "ab", "a", None,
                       (("a", 1),), ("abcdefghi",)):
            self.expect(play_of(figure("cat", pieces=(("hop", "open", params, ()),))), False)

    def test_what_is_no_piece(self):
        for piece in ((), ("hop", "open", ()), ("hop", "open", (), (), ()), ("Hop", "open", (), ()), None, "hop",
                      ["hop", "open", (), ()], ("hop", "open", (), []), ("hop", "open", (), None), (1, "open", (), ()),
                      ("hop", "open", (), (("shew",),)), ("hop", "open", (), (("show",),) * 9)):
            self.expect(play_of(figure("cat", pieces=(piece,))), False)
        for pieces in ([], None, "", 1, ("hop", "open", (), ())):
            self.expect(play_of(figure("cat", pieces=pieces)), False)

    def test_six_scripts_at_most(self):
        for many in range(9):
            self.expect(play_of(figure("cat", *[script("flag")] * many)), many <= 6)

    def test_hats(self):
        for hat in HATS + [("key", "abcdefgh"), ("news", "a")]:
            self.expect(play_of(figure("cat", (hat, ()))), True)
            self.expect(play_of(figure("cat", (hat + ("a",), ()))), False)
        for hat in (("key",), ("news",), ("flag", "a"), ("key", ""), ("key", "Up"), ("news", 1), ("news", None), (),
                    ("tell", "a"), ("Flag",), "flag", ["flag"], ["key", "a"], None, 1, True, ("key", "a", "b"),
                    ("key", ["a"]), (("flag",),), (1,), ([],)):
            self.expect(play_of(figure("cat", (hat, ()))), False)

    def test_what_is_no_script(self):
        for wrong in ((), (("flag",),), (("flag",), (), ()), [("flag",), ()], (("flag",), []), (("flag",), None), None,
                      (("flag",), (("show",),) * 9), (("flag",), (("shew",),)), "flag", ("flag", ())):
            self.expect(play_of(figure("cat", wrong)), False)
        for scripts in ([], None, "", 0, (("flag",), ())):
            self.expect(play_of(("cat", (0, 0, 0), (), (), (), scripts)), False)

    def test_blocks_four_deep_in_scripts_and_pieces(self):
        for deep in range(1, 7):
            block = (("show",),)
            for _ in range(deep - 1):
                block = (("ever", block),)
            self.expect(with_scripts(*block), deep <= 4)
            self.expect(with_piece(*block), deep <= 4)


class Named(Asked):
    """What a play's blocks name is there."""

    OWN = {"names": (("mine", 1),), "lists": (("sack", (1,)),)}

    def everywhere(self, look):
        """Deeds that read by this look, at each place where a look or test may stand."""
        test = ("not", ("like", 1, look))
        return [
            ("move", look), ("turn", look), ("place", look, 1), ("place", 1, look), ("say", look), ("set", "all", look),
            ("add", "all", look), ("put", "heap", look), ("drop", "heap", look), ("write", "heap", look, 1),
            ("write", "heap", 1, look), ("wait", look), ("until", test), ("if", test, (), ()), ("times", look, ()),
            ("while", test, ()), ("do", "hop", (look,)), ("say", ("plus", 1, ("minus", look, 1))),
            ("say", ("item", "heap", look)), ("until", ("both", ("below", look, 1), ("meets", "cat"))),
            ("until", ("any", ("meets", "cat"), ("below", look, 1))),
            ("if", ("meets", "cat"), (("say", look),), ()), ("if", ("meets", "cat"), (), (("say", look),)),
            ("times", 1, (("say", look),)), ("while", ("meets", "cat"), (("say", look),)),
            ("ever", (("ever", (("ever", (("say", look),)),)),)),
        ]

    def expect_deed(self, deed, in_script, in_piece):
        """Whether a play is one with the deed in the script, or in the piece, of a figure with its own."""
        hop = ("hop", "open", ("far",), ())
        behind = (("show",), deed)
        self.expect(with_scripts(*behind, pieces=(hop,), **self.OWN), in_script)
        self.expect(with_piece(*behind, **self.OWN), in_piece)

    def test_names_that_looks_read(self):
        for name, in_script, in_piece in (("mine", True, True), ("all", True, True), ("far", False, True),
                                          ("sack", False, False), ("heap", False, False), ("hop", False, False),
                                          ("cat", False, False), ("other", False, False)):
            for deed in self.everywhere(("name", name)):
                self.expect_deed(deed, in_script, in_piece)

    def test_lists_that_looks_read(self):
        for name, wanted in (("sack", True), ("heap", True), ("mine", False), ("all", False), ("far", False),
                             ("other", False)):
            for look in (("many", name), ("item", name, 0)):
                for deed in self.everywhere(look):
                    self.expect_deed(deed, wanted, wanted)

    def test_names_that_set_and_add_tell(self):
        for name, wanted in (("mine", True), ("all", True), ("far", False), ("sack", False), ("heap", False),
                             ("other", False)):
            for word in ("set", "add"):
                self.expect_deed((word, name, 1), wanted, wanted)
                self.expect_deed(("ever", ((word, name, 1),)), wanted, wanted)

    def test_a_param_named_as_its_own_name_may_be_set(self):
        self.expect(with_piece(("set", "far", ("name", "far")), names=(("far", 1),)), True)

    def test_lists_of_put_drop_write(self):
        for name, wanted in (("sack", True), ("heap", True), ("mine", False), ("all", False), ("far", False),
                             ("other", False)):
            for deed in (("put", name, 1), ("drop", name, 1), ("write", name, 1, 1)):
                self.expect_deed(deed, wanted, wanted)
                self.expect_deed(("times", 2, (deed,)), wanted, wanted)

    def test_figures_of_meets_and_copy(self):
        for name, wanted in (("cat", True), ("dog", True), ("cow", False), ("mine", False), ("far", False)):
            for deed in (("copy", name), ("until", ("meets", name)), ("while", ("not", ("meets", name)), ()),
                         ("if", ("both", ("meets", "cat"), ("any", ("meets", name), ("meets", "cat"))), (), ()),
                         ("ever", (("copy", name),))):
                self.expect_deed(deed, wanted, wanted)
        self.expect_deed(("copy", None), True, True)

    def test_pieces_of_do(self):
        for name, looks, wanted in (("hop", (1,), True), ("hop", (), False), ("hop", (1, 2), False),
                                    ("skip", (1,), False), ("cat", (1,), False), ("far", (1,), False)):
            self.expect_deed(("do", name, looks), wanted, wanted)
            self.expect_deed(("if", ("meets", "cat"), (), (("do", name, looks),)), wanted, wanted)

    def test_as_many_looks_as_params(self):
        for params in ((), ("a",), ("a", "b")):
            for many in range(3):
                self.expect(with_piece(("do", "hop", (1,) * many), params=params), many == len(params))

    def test_pieces_may_do_each_other(self):
        pieces = (("hop", "open", ("a",), (("do", "skip", (1, ("name", "a"))),)),
                  ("skip", "closed", ("a", "b"), (("do", "hop", (("name", "b"),)),)))
        self.expect(with_scripts(pieces=pieces), True)

    def test_another_pieces_params_are_none_of_its_own(self):
        pieces = (("hop", "open", ("a",), ()), ("skip", "open", ("b",), (("say", ("name", "a")),)))
        self.expect(with_scripts(pieces=pieces), False)

    def test_another_figures_own_are_none_of_its(self):
        other = figure("dog", names=(("bone", 1),), lists=(("hole", ()),), pieces=(("dig", "open", (), ()),))
        for deed in (("say", ("name", "bone")), ("set", "bone", 1), ("say", ("many", "hole")), ("put", "hole", 1),
                     ("do", "dig", ())):
            self.expect(play_of(figure("cat", script("flag", deed)), other), False)
            self.expect(play_of(other, figure("cat", script("flag", deed))), False)
            self.expect(play_of(figure("cat"), other[:5] + ((script("flag", deed),),)), True)

    def test_each_script_and_each_piece_counts(self):
        bad = ("say", ("name", "other"))
        for hat in HATS:
            self.expect(play_of(HEN, figure("cat", script("flag"), script("flag"), (hat, (bad,)))), False)
        pieces = (("hop", "open", (), ()), ("skip", "open", (), (bad,)))
        self.expect(play_of(HEN, figure("cat", pieces=pieces)), False)
        self.expect(play_of(HEN, figure("cat", pieces=pieces[:1])), True)

    def test_news_and_keys_need_not_be_there(self):
        self.expect(with_scripts(("tell", "nobody"), ("await", "nothing")), True)

    def test_nothing_is_named_beyond_the_figures_and_all(self):
        self.expect(with_scripts(("say", ("name", "all"))), True)
        self.expect(play_of(figure("cat", script("flag", ("say", ("name", "all"))))), False)

    def test_defined_in_this_file_and_by_name(self):
        self.assertEqual(is_play.__module__, "figuredeeds.plays")
        self.assertEqual(str(inspect.signature(is_play)), "(thing)")
        self.assertIs(is_play(thing=PLAY), True)


if __name__ == "__main__":
    unittest.main()
