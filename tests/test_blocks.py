import inspect
import unittest

from figuredeeds.plays import is_block
from tests.plays_at_hand import ALL_DEEDS, NO_PART, part_at, places_in, with_part

MOST = 1000000
LOOKS = [0, -MOST, MOST, ("name", "a"), ("plus", 1, ("x",)), ("item", "bag", 1), ("many", "bag"), ("number",)]
NO_LOOKS = [True, False, None, "", "a", MOST + 1, -MOST - 1, (), (1,), ("meets", "a"), ["x"], ("plus", 1), ("x", 1),
            ("plus", 1, ["x"]), ("plus", True, 1), ("name", "A")]
TESTS = [("like", 1, 2), ("below", ("x",), 2), ("not", ("meets", "a")), ("both", ("meets", "a"), ("meets", "b")),
         ("any", ("meets", "a"), ("meets", "b")), ("meets", "abcdefgh")]
NO_TESTS = [True, False, None, 1, "", (), ("x",), ("like", 1), ("like", 1, True), ["meets", "a"], ("meets", ""),
            ("not", ["meets", "a"]), ("not", 1)]
NAMES = ["a", "z", "abcdefgh", "run", "move"]
NO_NAMES = ["", "abcdefghi", "A", "a1", "a b", 1, True, ("a",), ["a"], ("name", "a")]
BLOCKS = [(), (("show",),), (("show",),) * 8]
NO_BLOCKS = [None, True, 1, "", "show", [], [("show",)], ("show",), (["show"],), (("show",),) * 9, (None,),
             (("shew",),)]
ALL_LOOKS = [(), (1,), (1, 2), (("x",), ("name", "a"))]
NO_ALL_LOOKS = [None, 1, "", [], [1], (1, 2, 3), (True,), (1, None), (["x"],), ("x",), (("meets", "a"),)]
WORDS = ["run", "others", "all"]
NO_WORDS = ["", "other", "one", "Run", None, True, 0, ("run",), ["run"]]
LOOK, TEST, NAME = (LOOKS, NO_LOOKS), (TESTS, NO_TESTS), (NAMES, [None, *NO_NAMES])
BLOCK = (BLOCKS, NO_BLOCKS)
DEEDS = {
    "move": (LOOK,), "turn": (LOOK,), "place": (LOOK, LOOK), "show": (), "hide": (), "say": (LOOK,),
    "set": (NAME, LOOK), "add": (NAME, LOOK), "put": (NAME, LOOK), "drop": (NAME, LOOK), "write": (NAME, LOOK, LOOK),
    "wait": (LOOK,), "until": (TEST,), "if": (TEST, BLOCK, BLOCK), "times": (LOOK, BLOCK), "while": (TEST, BLOCK),
    "ever": (BLOCK,), "do": (NAME, (ALL_LOOKS, NO_ALL_LOOKS)), "tell": (NAME,), "await": (NAME,),
    "copy": (([*NAMES, None], NO_NAMES),), "end": (), "stop": ((WORDS, NO_WORDS),),
}
HOLDERS = [lambda block: ("if", ("meets", "a"), block, ()), lambda block: ("if", ("meets", "a"), (), block),
           lambda block: ("times", 2, block), lambda block: ("while", ("meets", "a"), block),
           lambda block: ("ever", block)]


def nested(deep, block, hold):
    """The block as the innermost of so many, one within another."""
    for _ in range(deep - 1):
        block = (("show",), hold(block))
    return block


def deep_look(deep):
    look = ("x",)
    for _ in range(deep - 1):
        look = ("plus", 1, look)
    return look


def deep_test(deep):
    test = ("meets", "a")
    for _ in range(deep - 1):
        test = ("not", test)
    return test


class IsBlock(unittest.TestCase):
    def expect(self, thing, wanted):
        with self.subTest(thing=thing):
            self.assertIs(is_block(thing), wanted)

    def forms(self):
        """Each deed with the first right part at each place."""
        return [(word, *[right[0] for right, _ in parts]) for word, parts in DEEDS.items()]

    def test_there_are_as_many_deeds_as_told(self):
        self.assertEqual(len(DEEDS), 23)

    def test_each_deed_with_each_right_part(self):
        for deed in self.forms():
            self.expect((deed,), True)
            for at, (right, _) in enumerate(DEEDS[deed[0]]):
                for part in right:
                    self.expect((with_part(deed, (at + 1,), part),), True)

    def test_each_deed_with_each_wrong_part(self):
        for deed in self.forms():
            for at, (_, wrong) in enumerate(DEEDS[deed[0]]):
                for part in wrong:
                    self.expect((with_part(deed, (at + 1,), part),), False)

    def test_as_many_parts_as_told(self):
        for deed in self.forms():
            for part in (1, "a", None, (), ("x",)):
                self.expect((deed + (part,),), False)
            if len(deed) > 1:
                self.expect((deed[:-1],), False)
                self.expect((deed[:1],), False)
        self.expect((("if", ("meets", "a"), ()),), False)

    def test_one_wrong_deed_among_right_ones(self):
        for wrong in (("shew",), ["show"], None, True, 1, "show", (), ("round", ("ever", ())), ("out",), ("ended",)):
            for at in range(4):
                deeds = [("show",)] * 3
                deeds.insert(at, wrong)
                self.expect(tuple(deeds), False)

    def test_eight_deeds_at_most(self):
        for many in range(12):
            self.expect((("show",),) * many, many <= 8)
            for hold in HOLDERS:
                for deep in (2, 3, 4):
                    self.expect(nested(deep, (("say", 1),) * many, hold), many <= 8)

    def test_four_deep_at_most(self):
        for hold in HOLDERS:
            for block in ((), (("show",),)):
                for deep in range(1, 8):
                    self.expect(nested(deep, block, hold), deep <= 4)

    def test_four_deep_through_all_sorts_of_blocks(self):
        for first in HOLDERS:
            for second in HOLDERS:
                for third in HOLDERS:
                    four = (first((second((third((("show",),)),)),)),)
                    self.expect(four, True)
                    for fourth in HOLDERS:
                        self.expect((first((second((third((fourth(()),)),)),)),), False)

    def test_depth_counts_in_each_branch(self):
        four, five = nested(4, (), HOLDERS[4]), nested(5, (), HOLDERS[4])
        self.expect(four + four, True)
        self.expect(four + five, False)
        self.expect((("if", ("meets", "a"), four[1][1], four[1][1]),), True)
        self.expect((("if", ("meets", "a"), four[1][1], four),), False)

    def test_looks_and_tests_six_deep_at_most_wherever_they_stand(self):
        for deed in self.forms():
            for at, kind in enumerate(DEEDS[deed[0]]):
                if kind not in (LOOK, TEST):
                    continue
                for deep in (5, 6, 7, 8):
                    part = deep_look(deep) if kind == LOOK else deep_test(deep)
                    block = (with_part(deed, (at + 1,), part),)
                    self.expect(block, deep <= 6)
                    self.expect((("ever", (("ever", block),)),), deep <= 6)
        for deep in (5, 6, 7):
            self.expect((("do", "a", (1, deep_look(deep))),), deep <= 6)

    def test_do_with_none_to_three_looks(self):
        for many in range(5):
            self.expect((("do", "a", (1,) * many),), many <= 2)

    def test_things_of_any_kind(self):
        self.expect((), True)
        for thing in NO_PART:
            self.expect(thing, False)
            self.expect((thing,), False)
            self.expect((("show",), thing), False)
            self.expect((("ever", (thing,)),), False)

    def test_very_deep_and_very_many(self):
        deep = ()
        for _ in range(28):
            deep = (("ever", deep),)
        self.expect(deep, False)
        look = 1
        for _ in range(28):
            look = ("plus", look, 1)
        self.expect((("say", look),), False)
        self.expect((("show",),) * 1400, False)
        self.expect(tuple([1] * 2900), False)

    def test_no_list_for_a_tuple_anywhere(self):
        self.expect(ALL_DEEDS, True)
        for place in places_in(ALL_DEEDS):
            part = part_at(ALL_DEEDS, place)
            if isinstance(part, tuple):
                self.expect(with_part(ALL_DEEDS, place, list(part)), False)
                self.expect(with_part(ALL_DEEDS, place, None), False)
                self.expect(with_part(ALL_DEEDS, place, part + (None,)), False)

    def test_no_true_or_false_for_a_number_anywhere(self):
        for place in places_in(ALL_DEEDS):
            if isinstance(part_at(ALL_DEEDS, place), int):
                for wrong in (True, False, "1", None, MOST + 1):
                    self.expect(with_part(ALL_DEEDS, place, wrong), False)

    def test_no_other_text_for_a_word_anywhere(self):
        for place in places_in(ALL_DEEDS):
            if isinstance(part_at(ALL_DEEDS, place), str):
                for wrong in ("", "A", 5, ("a",), ["a"]):
                    self.expect(with_part(ALL_DEEDS, place, wrong), False)

    def test_what_its_deeds_name_is_no_matter_of_a_block(self):
        self.expect((("do", "nowhere", (1,)), ("set", "nothing", ("name", "none")), ("copy", "nobody")), True)

    def test_defined_in_this_file_and_by_name(self):
        self.assertEqual(is_block.__module__, "figuredeeds.plays")
        self.assertEqual(str(inspect.signature(is_block)), "(thing)")
        self.assertIs(is_block(thing=()), True)


if __name__ == "__main__":
    unittest.main()
