import inspect
import unittest

from figuredeeds.errors import Fell
from figuredeeds.looks import holds, is_look, is_test, value_of
from tests.plays_at_hand import as_lists, as_tuples

EYES = (
    [("score", 5), ("far", 1000000), ("low", -1000000), ("score", 8), ("zero", 0)],
    [("bag", [4, -5, 6]), ("bare", []), ("bag", [1]), ("ends", [-1000000, 1000000])],
    (3, 2, 1, 7),
    ["cat", "owl"],
)
MOST = 1000000
NONE_LOOK = ("name", "missing")
NOUGHT_LOOK = ("over", 1, 0)
FAR_LOOK = ("plus", MOST, 1)
FALLING = (("none", NONE_LOOK), ("nought", NOUGHT_LOOK), ("far", FAR_LOOK))
PAIRED = ("plus", "minus", "by", "over", "rest")

# Of no kind that is a look or a test, at no place.
NEITHER = [
    True, False, None, "", "a", "name", "x", 1000001, -1000001, 10 ** 30, (), [], [1], (1,), (1, 2), ((),), ([],),
    (None,), (True,), ((("x",),),), ([], 1), (["plus"], 1, 1), (("plus",), 1, 1), ("Plus", 1, 1), ("plus ", 1, 1),
    ("times", 1, 1), ("look", 1), ("value", 1), ("test",), ("more", 1, 1), ("and", ("meets", "a"), ("meets", "a")),
]


def nested(deep, inner, wrap):
    """Something inner, one deep, put into more until it is so deep."""
    for _ in range(deep - 1):
        inner = wrap(inner)
    return inner


class Asked(unittest.TestCase):
    def expect_look(self, thing, wanted):
        with self.subTest(thing=thing):
            self.assertIs(is_look(thing), wanted)

    def expect_test(self, thing, wanted):
        with self.subTest(thing=thing):
            self.assertIs(is_test(thing), wanted)


class IsLook(Asked):
    def test_all_forms(self):
        forms = [0, ("name", "a"), ("item", "bag", 0), ("many", "bag"), ("x",), ("y",), ("way",), ("number",)]
        forms += [(word, 1, ("x",)) for word in PAIRED]
        for thing in forms:
            self.expect_look(thing, True)
            self.expect_test(thing, False)

    def test_values_up_to_the_bounds(self):
        for thing in (-1000000, -1, 0, 1, 1000000):
            self.expect_look(thing, True)
            self.expect_look(("plus", thing, 0), True)
        for thing in (-1000001, 1000001, True, False, None, "1"):
            self.expect_look(thing, False)
            for word in PAIRED:
                self.expect_look((word, thing, 0), False)
                self.expect_look((word, 0, thing), False)
            self.expect_look(("item", "bag", thing), False)

    def test_names(self):
        for name in ("a", "z", "az", "abcdefgh"):
            self.expect_look(("name", name), True)
            self.expect_look(("many", name), True)
            self.expect_look(("item", name, 0), True)
        wrong = ["", "abcdefghi", "A", "a1", "a b", " a", "a ", "a\n", "aB", "_", "`", "{", 1, True, None]
        for name in wrong + [("a",), ["a"], ("name", "a")]:
            self.expect_look(("name", name), False)
            self.expect_look(("many", name), False)
            self.expect_look(("item", name, 0), False)

    def test_letters_of_other_alphabets_are_none(self):
        self.expect_look(("name", "\u00e4"), False)
        self.expect_look(("name", "\u0430"), False)

    def test_as_many_parts_as_told(self):
        for word in PAIRED:
            for parts in ((), (1,), (1, 1, 1), (1, 1, None)):
                self.expect_look((word, *parts), False)
        for thing in (("name",), ("name", "a", "a"), ("item",), ("item", "a"), ("item", "a", 1, 1), ("item", 1, "a"),
                      ("many",), ("many", "a", 1), ("x", 1), ("y", ()), ("way", None), ("number", "a")):
            self.expect_look(thing, False)

    def test_things_of_other_kinds(self):
        for thing in NEITHER:
            self.expect_look(thing, False)
            self.expect_look(("plus", thing, 1), False)
            self.expect_look(("plus", 1, thing), False)
            self.expect_look(("item", "bag", thing), False)

    def test_lists_are_no_tuples(self):
        for thing in (["x"], ["name", "a"], ["plus", 1, 1], ("plus", ["x"], 1), ("plus", 1, ["x"]),
                      ("item", "a", ["x"]), ("by", ("plus", 1, ["name", "a"]), 1)):
            self.expect_look(thing, False)

    def test_tests_are_no_parts(self):
        self.expect_look(("plus", ("meets", "a"), 1), False)
        self.expect_look(("item", "a", ("like", 1, 1)), False)

    def test_six_deep_at_most(self):
        wraps = [lambda look: ("item", "a", look)]
        for word in PAIRED:
            wraps.append(lambda look, word=word: (word, look, 1))
            wraps.append(lambda look, word=word: (word, 1, look))
            wraps.append(lambda look, word=word: (word, look, look))
        for wrap in wraps:
            for inner in (7, ("name", "a"), ("many", "a"), ("x",)):
                for deep in range(1, 9):
                    self.expect_look(nested(deep, inner, wrap), deep <= 6)

    def test_thirty_deep_things(self):
        for wrap in (lambda t: (t,), lambda t: [t], lambda t: ("plus", t, 1), lambda t: ("not", t),
                     lambda t: ("plus", [t], 1)):
            thing = nested(30, 1, wrap)
            self.expect_look(thing, False)
            self.expect_test(thing, False)

    def test_wide_things(self):
        for thing in ((1,) * 2999, [1] * 2999, ("plus",) + (1,) * 2990, ("plus",) * 2999):
            self.expect_look(thing, False)
            self.expect_test(thing, False)

    def test_by_name(self):
        self.assertIs(is_look(thing=("x",)), True)
        self.assertIs(is_test(thing=("meets", "a")), True)


class IsTest(Asked):
    def test_all_forms(self):
        meets = ("meets", "cat")
        for thing in (("like", 1, ("x",)), ("below", ("x",), 1), ("not", meets), ("both", meets, meets),
                      ("any", meets, ("like", 0, 0)), meets):
            self.expect_test(thing, True)
            self.expect_look(thing, False)

    def test_things_of_other_kinds(self):
        meets = ("meets", "cat")
        for thing in NEITHER + [0, 1, ("x",), ("plus", 1, 1), ("name", "a")]:
            self.expect_test(thing, False)
            for within in (("not", thing), ("both", thing, meets), ("both", meets, thing), ("any", thing, meets),
                           ("any", meets, thing)):
                self.expect_test(within, False)
        for thing in NEITHER + [meets]:
            for within in (("like", thing, 1), ("like", 1, thing), ("below", thing, 1), ("below", 1, thing)):
                self.expect_test(within, False)

    def test_as_many_parts_as_told(self):
        meets = ("meets", "cat")
        for thing in (("like",), ("like", 1), ("like", 1, 1, 1), ("below", 1), ("below", 1, 1, 1), ("not",),
                      ("not", meets, meets), ("both", meets), ("both", meets, meets, meets), ("any",),
                      ("any", meets), ("any", meets, meets, meets), ("meets",), ("meets", "a", "b")):
            self.expect_test(thing, False)

    def test_names(self):
        for name in ("a", "abcdefgh"):
            self.expect_test(("meets", name), True)
        for name in ("", "abcdefghi", "A", "a1", 1, True, None, ("a",), ["a"]):
            self.expect_test(("meets", name), False)

    def test_lists_are_no_tuples(self):
        for thing in (["meets", "a"], ["like", 1, 1], ("not", ["meets", "a"]), ("like", ["x"], 1),
                      ("both", ("meets", "a"), ["meets", "a"]), ("below", 1, ("plus", 1, ["x"]))):
            self.expect_test(thing, False)

    def test_six_deep_at_most(self):
        meets = ("meets", "a")
        for wrap in (lambda t: ("not", t), lambda t: ("both", t, meets), lambda t: ("both", meets, t),
                     lambda t: ("any", t, meets), lambda t: ("any", meets, t)):
            for deep in range(1, 9):
                self.expect_test(nested(deep, meets, wrap), deep <= 6)

    def test_looks_count_in_a_tests_depth(self):
        def dig(look):
            return ("plus", look, 1)

        for deep in range(1, 8):
            look = nested(deep, 7, dig)
            for test in (("like", look, 1), ("like", 1, look), ("below", look, 1), ("below", 1, look)):
                self.expect_test(test, deep + 1 <= 6)
                self.expect_test(("not", test), deep + 2 <= 6)
                self.expect_test(("any", ("both", test, ("meets", "a")), ("meets", "a")), deep + 3 <= 6)


class Looked(unittest.TestCase):
    def comes(self, look, wanted, eyes=EYES):
        with self.subTest(look=look):
            value = value_of(look, eyes)
            self.assertEqual(value, wanted)
            self.assertIs(type(value), int)

    def falls(self, word, ask, *asked):
        with self.subTest(asked=asked):
            with self.assertRaises(Fell) as caught:
                ask(*asked, EYES)
            self.assertEqual(caught.exception.word, word)


class ValueOf(Looked):
    def test_values(self):
        for value in (-1000000, -3, 0, 9, 1000000):
            self.comes(value, value)

    def test_names_of_alike_ones_the_first(self):
        self.comes(("name", "score"), 5)
        self.comes(("name", "zero"), 0)
        self.falls("none", value_of, ("name", "missing"))
        self.falls("none", value_of, ("name", "bag"))

    def test_sums(self):
        self.comes(("plus", 3, 4), 7)
        self.comes(("plus", 3, -4), -1)
        self.comes(("minus", 3, 4), -1)
        self.comes(("minus", 3, -4), 7)
        self.comes(("by", 3, -4), -12)
        self.comes(("by", -3, -4), 12)
        self.comes(("by", 3, 0), 0)

    def test_quotients_are_rounded_down_and_rests_fit(self):
        for first, second, quotient, left in ((7, 2, 3, 1), (-7, 2, -4, 1), (7, -2, -4, -1), (-7, -2, 3, -1),
                                              (0, 5, 0, 0), (0, -5, 0, 0), (6, -3, -2, 0), (1, MOST, 0, 1),
                                              (-1, MOST, -1, 999999), (-MOST, -1, MOST, 0), (MOST, -1, -MOST, 0)):
            self.comes(("over", first, second), quotient)
            self.comes(("rest", first, second), left)

    def test_by_nought(self):
        for word in ("over", "rest"):
            for first in (-1, 0, 1):
                self.falls("nought", value_of, (word, first, 0))
                self.falls("nought", value_of, (word, first, ("minus", 2, 2)))

    def test_far(self):
        self.comes(("plus", MOST - 1, 1), MOST)
        self.falls("far", value_of, ("plus", MOST, 1))
        self.comes(("minus", 1 - MOST, 1), -MOST)
        self.falls("far", value_of, ("minus", -MOST, 1))
        self.falls("far", value_of, ("plus", -MOST, -1))
        self.falls("far", value_of, ("minus", MOST, -1))
        self.comes(("by", 1000, 1000), MOST)
        self.comes(("by", 1000, -1000), -MOST)
        self.falls("far", value_of, ("by", 1001, 1000))
        self.falls("far", value_of, ("by", 1001, -1000))
        self.falls("far", value_of, ("by", MOST, MOST))

    def test_parts_are_values_by_themselves(self):
        self.falls("far", value_of, ("minus", ("plus", MOST, 1), 1))
        self.falls("far", value_of, ("by", 0, ("by", MOST, 2)))
        self.falls("far", value_of, ("over", ("plus", MOST, MOST), 2))
        self.falls("far", value_of, ("item", "bag", ("plus", MOST, 1)))
        self.falls("far", value_of, ("rest", ("minus", -MOST, 1), 7))

    def test_what_is_no_value_is_far_wherever_it_stands(self):
        eyes = ([("a", MOST + 1)], [("b", [-MOST - 1])], (0, 0, 0, 0), [])
        for look in (MOST + 1, -MOST - 1, ("plus", MOST + 1, -1), ("name", "a"), ("item", "b", 0)):
            with self.subTest(look=look), self.assertRaises(Fell) as caught:
                value_of(look, eyes)
            self.assertEqual(caught.exception.word, "far")

    def test_items_first_and_last_and_beyond(self):
        self.comes(("item", "bag", 0), 4)
        self.comes(("item", "bag", 1), -5)
        self.comes(("item", "bag", 2), 6)
        self.comes(("item", "ends", 0), -MOST)
        self.comes(("item", "ends", 1), MOST)
        for place in (3, -1, -2, -3, -4, MOST, -MOST):
            self.falls("none", value_of, ("item", "bag", place))
        for place in (-1, 0, 1):
            self.falls("none", value_of, ("item", "bare", place))
        self.falls("none", value_of, ("item", "score", 0))
        self.falls("none", value_of, ("item", "missing", 0))

    def test_many(self):
        self.comes(("many", "bag"), 3)
        self.comes(("many", "bare"), 0)
        self.falls("none", value_of, ("many", "missing"))
        self.falls("none", value_of, ("many", "score"))

    def test_spot(self):
        self.comes(("x",), 3)
        self.comes(("y",), 2)
        self.comes(("way",), 1)
        self.comes(("number",), 7)

    def test_looks_within_looks(self):
        self.comes(("item", "bag", ("minus", ("many", "bag"), 1)), 6)
        self.comes(("plus", ("by", ("x",), 10), ("over", ("name", "score"), ("y",))), 32)
        self.comes(nested(6, 1, lambda look: ("plus", look, look)), 32)

    def test_deeper_ones_are_looked_at_all_the_same(self):
        self.comes(nested(9, 1, lambda look: ("plus", look, 1)), 9)

    def test_the_first_part_that_falls_tells_the_word(self):
        for word, first in FALLING:
            for other, second in FALLING:
                for sum_word in PAIRED:
                    self.falls(word, value_of, (sum_word, first, second))
                    self.falls(other, value_of, (sum_word, 1, second))
                    self.falls(word, value_of, (sum_word, first, 0))
                    self.falls(other, value_of, (sum_word, ("plus", 1, second), first))

    def test_a_list_is_looked_for_ahead_of_its_look(self):
        for word, look in FALLING:
            self.falls("none", value_of, ("item", "missing", look))
            self.falls(word, value_of, ("item", "bag", look))
            self.falls(word, value_of, ("item", "bare", look))

    def test_it_falls_at_any_place_within(self):
        for word, look in FALLING:
            for wrap in (lambda t: ("plus", t, 1), lambda t: ("minus", 1, t), lambda t: ("item", "bag", t),
                         lambda t: ("over", t, 1), lambda t: ("rest", 1, t)):
                for deep in range(1, 7):
                    self.falls(word, value_of, nested(deep, look, wrap))


class Holds(Looked):
    def held(self, test, wanted, eyes=EYES):
        with self.subTest(test=test):
            self.assertIs(holds(test, eyes), wanted)

    def test_like_and_below(self):
        for first, second in ((1, 2), (2, 2), (3, 2), (-MOST, MOST), (MOST, -MOST), (-1, -2), (0, 0)):
            self.held(("like", first, second), first == second)
            self.held(("below", first, second), first < second)
        self.held(("like", ("name", "score"), 5), True)
        self.held(("below", ("x",), ("y",)), False)

    def test_meets(self):
        self.held(("meets", "cat"), True)
        self.held(("meets", "owl"), True)
        self.held(("meets", "dog"), False)
        self.held(("meets", "ca"), False)
        self.held(("meets", "cat"), False, ([], [], (0, 0, 0, 0), []))

    def test_not_both_any(self):
        tests = {True: ("meets", "cat"), False: ("meets", "dog")}
        for first in (True, False):
            self.held(("not", tests[first]), not first)
            for second in (True, False):
                self.held(("both", tests[first], tests[second]), first and second)
                self.held(("any", tests[first], tests[second]), first or second)

    def test_the_second_only_where_the_first_leaves_it_open(self):
        yes, no = ("meets", "cat"), ("meets", "dog")
        for word, look in FALLING:
            fall = ("like", look, 1)
            self.held(("both", no, fall), False)
            self.held(("any", yes, fall), True)
            self.falls(word, holds, ("both", yes, fall))
            self.falls(word, holds, ("any", no, fall))
            for rest in (yes, no):
                self.falls(word, holds, ("both", fall, rest))
                self.falls(word, holds, ("any", fall, rest))
            self.falls(word, holds, ("not", fall))

    def test_the_first_part_that_falls_tells_the_word(self):
        for word, first in FALLING:
            for other, second in FALLING:
                for test_word in ("like", "below"):
                    self.falls(word, holds, (test_word, first, second))
                    self.falls(other, holds, (test_word, 1, second))
                for test_word in ("both", "any"):
                    self.falls(word, holds, (test_word, ("like", first, 1), ("below", 1, second)))

    def test_parts_are_values_by_themselves(self):
        self.falls("far", holds, ("like", ("plus", MOST, 1), ("plus", MOST, 1)))
        self.falls("far", holds, ("below", 0, ("by", MOST, 2)))


class HandedIn(unittest.TestCase):
    LOOKS = [7, ("plus", ("name", "score"), ("item", "bag", ("minus", ("x",), 1))), ("many", "bag")]
    TEST = ("both", ("meets", "cat"), ("any", ("below", 9, ("many", "bag")), ("not", ("like", 1, ("y",)))))

    def test_lists_for_tuples_and_tuples_for_lists(self):
        for eyes in (EYES, as_lists(EYES), as_tuples(EYES)):
            for look in self.LOOKS:
                self.assertEqual(value_of(as_lists(look), eyes), value_of(look, EYES))
            self.assertIs(holds(as_lists(self.TEST), eyes), True)
            self.assertIs(holds(self.TEST, eyes), True)

    def test_they_fall_alike(self):
        for word, look in FALLING:
            with self.assertRaises(Fell) as caught:
                value_of(as_lists(look), as_lists(as_tuples(EYES)))
            self.assertEqual(caught.exception.word, word)

    def test_nothing_is_changed(self):
        eyes = as_lists(as_tuples(EYES))
        look = as_lists(self.LOOKS[1])
        test = as_lists(self.TEST)
        value_of(look, eyes)
        holds(test, eyes)
        self.assertEqual(eyes, as_lists(as_tuples(EYES)))
        self.assertEqual(look, as_lists(self.LOOKS[1]))
        self.assertEqual(test, as_lists(self.TEST))

    def test_a_later_change_counts_then_only(self):
        eyes = ([("a", 1)], [("b", [2])], (0, 0, 0, 0), [])
        self.assertEqual(value_of(("name", "a"), eyes), 1)
        self.assertEqual(value_of(("name", "a"), eyes), 1)
        eyes[0][0] = ("a", 5)
        self.assertEqual(value_of(("name", "a"), eyes), 5)

    def test_by_names(self):
        self.assertEqual(value_of(eyes=EYES, look=("x",)), 3)
        self.assertIs(holds(eyes=EYES, test=("meets", "cat")), True)

    def test_eyes_of_any_size(self):
        names = [(chr(97 + at % 26) * (1 + at // 26), at) for at in range(200)]
        lists = [(name, [at] * 100) for name, at in names]
        eyes = (names, lists, (0, 0, 0, 0), ["cat"] * 100)
        self.assertEqual(value_of(("name", "rrrrrrrr"), eyes), 199)
        self.assertEqual(value_of(("item", "rrrrrrrr", 99), eyes), 199)

    def test_defined_in_this_file(self):
        for told in (is_look, is_test, value_of, holds):
            self.assertEqual(told.__module__, "figuredeeds.looks")
        self.assertEqual(str(inspect.signature(value_of)), "(look, eyes)")
        self.assertEqual(str(inspect.signature(holds)), "(test, eyes)")


if __name__ == "__main__":
    unittest.main()
