import unittest

from figuredeeds.errors import BadLine
from figuredeeds.plays import DEEDS, is_play
from figuredeeds.texts import play_in, play_text
from tests.plays_at_hand import PLAY, RICH, as_lists, figure, lists_within, play_of, script
from tests.random_plays import Maker

RICH_TEXT = """ground 5 4
name all 7
list heap 3
figure fox 4 3 3
name gold 1
name fur 0
list sack 1 2
piece dig closed deep wide
say name deep
move name wide
stop run
piece nap open
wait 2
stop all
script flag
if both like name gold 1 not meets hen
move plus 1 x
turn minus 2 y
place by 1 2 over 3 way
show
hide
say rest 5 number
set gold 1
add all -1
else
put sack 1
drop sack 0
write heap many heap item sack 0
done
times 3
wait 1
until any below 1 2 meets fox
done
while like 1 2
do dig 1 name gold
do nap
done
ever
tell dawn
await dusk
done
copy fox
copy
end
stop others
script key up
script news dawn
say 1
script touch
script born
move 1
figure hen 0 0 0"""
PLAY_TEXT = """ground 5 4
name score 100
name speed 2
list bag 9
list shelf -1 0 1
figure cat 1 2 0
name score 5
name top 1000000
list bag 4 5 6
piece hop open far
move name far
script flag
do hop 1
figure dog 3 0 1
figure owl 1 2 3
name score -7
list bag
list hoard 1 2 3 4 5 6 7 8"""
# Deeds and their lines.
LINES = (
    (("move", 1), "move 1"),
    (("turn", -3), "turn -3"),
    (("place", ("x",), ("y",)), "place x y"),
    (("show",), "show"),
    (("hide",), "hide"),
    (("say", ("name", "n")), "say name n"),
    (("set", "n", ("plus", ("name", "n"), 1)), "set n plus name n 1"),
    (("add", "n", ("minus", 0, 1000000)), "add n minus 0 1000000"),
    (("put", "bag", ("by", ("way",), ("number",))), "put bag by way number"),
    (("drop", "bag", ("over", 7, 2)), "drop bag over 7 2"),
    (("write", "bag", ("rest", 7, 2), ("item", "bag", 0)), "write bag rest 7 2 item bag 0"),
    (("wait", ("many", "bag")), "wait many bag"),
    (("until", ("like", 1, 2)), "until like 1 2"),
    (("until", ("below", 1, 2)), "until below 1 2"),
    (("until", ("not", ("meets", "cat"))), "until not meets cat"),
    (("until", ("both", ("meets", "cat"), ("like", 1, 1))), "until both meets cat like 1 1"),
    (("until", ("any", ("like", 1, 1), ("meets", "cat"))), "until any like 1 1 meets cat"),
    (("do", "nap", ()), "do nap"),
    (("do", "hop", (1,)), "do hop 1"),
    (("do", "run", (("plus", 1, 2), ("name", "n"))), "do run plus 1 2 name n"),
    (("tell", "tea"), "tell tea"),
    (("await", "tea"), "await tea"),
    (("copy", None), "copy"),
    (("copy", "cat"), "copy cat"),
    (("end",), "end"),
    (("stop", "run"), "stop run"),
    (("stop", "others"), "stop others"),
    (("stop", "all"), "stop all"),
    (("if", ("like", 1, 2), (), ()), "if like 1 2\ndone"),
    (("if", ("like", 1, 2), (("show",),), ()), "if like 1 2\nshow\ndone"),
    (("if", ("like", 1, 2), (), (("hide",),)), "if like 1 2\nelse\nhide\ndone"),
    (("if", ("like", 1, 2), (("show",), ("end",)), (("hide",),)), "if like 1 2\nshow\nend\nelse\nhide\ndone"),
    (("times", 3, ()), "times 3\ndone"),
    (("times", ("x",), (("show",),)), "times x\nshow\ndone"),
    (("while", ("meets", "cat"), ()), "while meets cat\ndone"),
    (("while", ("meets", "cat"), (("show",), ("hide",))), "while meets cat\nshow\nhide\ndone"),
    (("ever", ()), "ever\ndone"),
    (("ever", (("ever", ()), ("ever", ()), ("show",))), "ever\never\ndone\never\ndone\nshow\ndone"),
)
PIECES = (("nap", "open", (), ()), ("hop", "closed", ("a",), ()), ("run", "open", ("a", "b"), ()))
HEAD = ["ground 5 4", "figure cat 0 0 0", "name n 0", "list bag", "piece nap open", "piece hop closed a",
        "piece run open a b", "script flag"]


def with_block(*deeds):
    """A play with a script of these deeds, which may name what HEAD has."""
    return play_of(figure("cat", script("flag", *deeds), names=(("n", 0),), lists=(("bag", ()),), pieces=PIECES))


class Texts(unittest.TestCase):
    def expect(self, play, text):
        with self.subTest(text=text):
            self.assertTrue(is_play(play))
            self.assertEqual(play_text(play), text)
            told = play_in(text)
            self.assertEqual(told, play)
            self.assertEqual(lists_within([told])[1:], [])
            self.assertTrue(is_play(told))

    def test_whole_plays(self):
        self.expect(RICH, RICH_TEXT)
        self.expect(PLAY, PLAY_TEXT)
        self.expect(play_of(figure("a"), size=(1, 1)), "ground 1 1\nfigure a 0 0 0")
        self.expect(play_of(figure("a", spot=(19, 18, 3)), size=(20, 19)), "ground 20 19\nfigure a 19 18 3")

    def test_each_deed(self):
        for deed, lines in LINES:
            self.expect(with_block(deed), "\n".join([*HEAD, lines]))
            self.expect(with_block(("hide",), deed, ("show",)), "\n".join([*HEAD, "hide", lines, "show"]))
            inner = with_block(("if", ("like", 1, 1), (deed,), (deed, deed)))
            self.expect(inner, "\n".join([*HEAD, "if like 1 1", lines, "else", lines, lines, "done"]))
        self.assertEqual({deed[0] for deed, _ in LINES}, set(DEEDS))

    def test_each_hat(self):
        for hat in ("flag", "key up", "news tea", "touch", "born", "key flag", "news key"):
            self.expect(play_of(figure("a", script(hat))), f"ground 5 4\nfigure a 0 0 0\nscript {hat}")
            self.expect(play_of(figure("a", script(hat, ("show",)), script(hat, ("hide",)))),
                        f"ground 5 4\nfigure a 0 0 0\nscript {hat}\nshow\nscript {hat}\nhide")

    def test_each_kind_of_piece(self):
        for kind in ("open", "closed"):
            for params in ((), ("a",), ("a", "b")):
                words = " ".join([kind, *params])
                self.expect(play_of(figure("a", pieces=(("hop", kind, params, (("show",),)),))),
                            f"ground 5 4\nfigure a 0 0 0\npiece hop {words}\nshow")

    def test_values(self):
        for value in (0, 1, -1, 9, 10, 100, -100, 1000000, -1000000, 101010):
            self.expect(play_of(figure("a"), names=(("n", value),)), f"ground 5 4\nname n {value}\nfigure a 0 0 0")
            self.expect(play_of(figure("a", lists=(("n", (value, 0, value)),))),
                        f"ground 5 4\nfigure a 0 0 0\nlist n {value} 0 {value}")
            self.expect(play_of(figure("a", script("flag", ("move", value)))),
                        f"ground 5 4\nfigure a 0 0 0\nscript flag\nmove {value}")

    def test_names_that_are_words_too(self):
        looks = ("plus", ("name", "plus"), ("item", "item", ("name", "name")))
        deeds = (("set", "set", looks), ("do", "do", (looks,)), ("tell", "done"), ("copy", "copy"), ("put", "item", 1))
        play = play_of(figure("copy", script("key flag", *deeds), names=(("plus", 1), ("name", 2), ("set", 3)),
                              lists=(("item", ()),), pieces=(("do", "open", ("open",), (("say", ("name", "open")),)),)))
        self.expect(play, "ground 5 4\nfigure copy 0 0 0\nname plus 1\nname name 2\nname set 3\nlist item\n"
                          "piece do open open\nsay name open\nscript key flag\n"
                          "set set plus name plus item item name name\ndo do plus name plus item item name name\n"
                          "tell done\ncopy copy\nput item 1")

    def test_looks_and_tests_six_deep(self):
        look, words = 1, "1"
        test, test_words = ("like", 1, 1), "like 1 1"
        for _ in range(5):
            look, words = ("plus", look, 3), f"plus {words} 3"
        for _ in range(4):
            test, test_words = ("not", test), f"not {test_words}"
        self.expect(with_block(("say", look)), "\n".join([*HEAD, f"say {words}"]))
        self.expect(with_block(("until", test)), "\n".join([*HEAD, f"until {test_words}"]))
        whole, whole_words = 1, "1"
        for _ in range(5):
            whole, whole_words = ("plus", whole, whole), f"plus {whole_words} {whole_words}"
        self.expect(with_block(("place", whole, whole)), "\n".join([*HEAD, f"place {whole_words} {whole_words}"]))
        # One more is no play, though the line is so written.
        for deed in (f"say plus {words} 1", f"until not {test_words}", f"say by 1 {whole_words}"):
            with self.assertRaises(BadLine) as caught:
                play_in("\n".join([*HEAD, deed, "show"]))
            self.assertEqual(caught.exception.line, len(HEAD) + 2)

    def test_blocks_four_deep(self):
        deed, lines = ("show",), ["show"]
        for word in ("ever", "times", "if"):
            part = {"ever": (), "times": (2,), "if": (("like", 1, 2),)}[word]
            head = {"ever": "ever", "times": "times 2", "if": "if like 1 2"}[word]
            deed = (word, *part, (deed,)) if word != "if" else (word, *part, (), (deed,))
            lines = [head, *lines, "done"] if word != "if" else [head, "else", *lines, "done"]
        self.expect(with_block(deed), "\n".join([*HEAD, *lines]))
        for more in ("ever", "while like 1 1"):
            text = "\n".join([*HEAD, more, *lines, "done"])
            with self.assertRaises(BadLine) as caught:
                play_in(text)
            self.assertEqual(caught.exception.line, len(text.split("\n")))

    def test_a_bare_second_block_may_be_written_with_else(self):
        for inner in ([], ["show"], ["ever", "done"]):
            plain = play_in("\n".join([*HEAD, "if like 1 1", *inner, "done", "hide"]))
            self.assertEqual(play_in("\n".join([*HEAD, "if like 1 1", *inner, "else", "done", "hide"])), plain)
            self.assertNotIn("else", play_text(plain))

    def test_a_plays_text_is_that_play(self):
        for seed in range(150):
            play = Maker(seed).play()
            text = play_text(play)
            self.assertEqual(play_in(text), play)
            self.assertEqual(play_text(play_in(text)), text)
            self.assertNotIn("  ", text)
            self.assertFalse([line for line in text.split("\n") if line != line.strip() or not line])

    def test_what_was_told_may_be_handed_in_again_whatever_its_size(self):
        look = ("name", "abcdefgh")
        for _ in range(4):
            look = ("minus", look, look)
        block = (("place", look, look),) * 8
        for _ in range(2):
            block = (("if", ("like", look, 1), block, block),) * 4
        play = play_of(*[figure(name, script("flag", *block), names=(("abcdefgh", 1),)) for name in "abcd"])
        text = play_text(play)
        self.assertGreater(len(text.split("\n")), 400)
        self.assertGreater(max(len(line) for line in text.split("\n")), 160)
        self.assertEqual(play_in(text), play)

    def test_lists_for_tuples(self):
        for play, text in ((RICH, RICH_TEXT), (PLAY, PLAY_TEXT)):
            lists = as_lists(play)
            self.assertEqual(play_text(lists), text)
            self.assertEqual(lists, as_lists(play))
            self.assertEqual(play_text([*play]), text)

    def test_told_are_tuples_and_texts(self):
        self.assertIs(type(play_text(RICH)), str)
        self.assertIs(type(play_in(RICH_TEXT)), tuple)
        self.assertEqual(play_text(RICH), play_text(RICH))
        self.assertEqual(play_in(RICH_TEXT), play_in(RICH_TEXT))

    def test_by_names(self):
        self.assertEqual(play_in(text=play_text(play=PLAY)), PLAY)


class BadLines(unittest.TestCase):
    def expect(self, lines, number):
        """Refused by that number; of None it is a play."""
        text = lines if isinstance(lines, str) else "\n".join(lines)
        with self.subTest(text=text):
            if number is None:
                self.assertTrue(is_play(play_in(text)))
                return
            with self.assertRaises(BadLine) as caught:
                play_in(text)
            self.assertEqual(caught.exception.line, number)

    def expect_line(self, head, line, right, tail=()):
        """A line behind that head is so written and can stand there, or it's the first that isn't or can't."""
        self.expect([*head, line, *tail], None if right else len(head))

    def test_the_empty_text_and_empty_lines(self):
        self.expect("", 0)
        self.expect("\n", 0)
        self.expect("\n" + RICH_TEXT, 0)
        lines = RICH_TEXT.split("\n")
        self.expect(RICH_TEXT + "\n", len(lines))
        for at in range(len(lines)):
            self.expect([*lines[:at], "", *lines[at:]], at)
            self.expect([*lines[:at], " ", *lines[at:]], at)

    def test_blanks(self):
        lines = RICH_TEXT.split("\n")
        for at, line in enumerate(lines):
            for wrong in (" " + line, line + " ", line.replace(" ", "  ", 1), line.replace(" ", "\t", 1), line + "\t",
                          line + "\r"):
                if wrong != line:
                    self.expect([*lines[:at], wrong, *lines[at + 1:]], at)

    def test_words_too_few_or_too_many(self):
        lines = RICH_TEXT.split("\n")
        # These may have more words, or fewer; their other lines are looked at elsewhere.
        loose = ("list", "piece", "do", "copy")
        for at, line in enumerate(lines):
            words = line.split(" ")
            if words[0] in loose:
                continue
            for more in ("0", "a", "1 1", "show", "-"):
                self.expect([*lines[:at], f"{line} {more}", *lines[at + 1:]], at)
            for many in range(1, len(words)):
                self.expect([*lines[:at], " ".join(words[:many]), *lines[at + 1:]], at)

    def test_lines_with_a_tail_of_any_length(self):
        base = ["ground 5 4", "figure cat 0 0 0"]
        for line, right in (("list", False), ("list bag", True), ("list bag 1", True), ("list bag 1 a", False),
                            ("list bag 1 -0", False), ("list 1", False), ("list bag 1 2 3 4 5 6 7 8", True)):
            self.expect_line(base, line, right)
        for line, right in (("piece", False), ("piece hop", False), ("piece hop open", True),
                            ("piece hop open a", True), ("piece hop closed", True), ("piece hop open a b", True), ("piece hop open a 1", False),
                            ("piece open hop", False), ("piece hop shut", False), ("piece hop Open", False),
                            ("piece hop open A", False), ("piece hop open a abcdefghi", False)):
            self.expect_line(base, line, right)
        for line, right in (("do", False), ("do nap", True), ("do hop 1", True), ("do run 1 2", True), ("do 1", False),
                            ("do hop plus 1 2", True), ("do hop plus 1", False), ("do run 1 a", False),
                            ("do hop like 1 1", False)):
            self.expect_line(HEAD, line, right)
        for line, right in (("copy", True), ("copy cat", True), ("copy cat cat", False), ("copy 1", False),
                            ("copy None", False)):
            self.expect_line(HEAD, line, right)
        # How many there are is no matter of a line.
        self.expect([*base, "list bag 1 2 3 4 5 6 7 8 9"], 3)
        self.expect([*base, "piece hop open a b c", "show"], 4)
        for line in ("do hop", "do hop 1 2", "do nap 1", "do run 1 2 3", "do run 1 2 3 4 5 6"):
            self.expect([*HEAD, line, "show"], len(HEAD) + 2)

    def test_words_of_no_line(self):
        for line in ("a", "Ground 5 4", "GROUND", "round 1", "out", "ended", "stage", "nothing", "1", "-", "look",
                     "plus 1 1", "like 1 1", "flag", "key up", "x", "block", "#", "show;", "else if"):
            for head in ([], ["ground 5 4"], HEAD, [*HEAD, "ever"]):
                self.expect_line(head, line, False)
                self.expect([*head, line, line], len(head))

    def test_names_that_are_none(self):
        for name in ("A", "aB", "abcdefghi", "a1", "1", "a-b", "a.", "", "-1", "0"):
            for line in ("name {} 1", "list {}", "figure {} 0 0 0"):
                self.expect_line(HEAD[:1], line.format(name), False)
            for line in ("name {} 1", "list {}", "piece {} open", "piece p open {}", "script key {}", "script news {}"):
                self.expect_line(HEAD[:2], line.format(name), False)
            for line in ("set {} 1", "say name {}", "say many {}", "say item {} 0", "until meets {}", "do {}",
                         "tell {}", "await {}", "copy {}", "put {} 1", "stop {}"):
                self.expect_line(HEAD, line.format(name), False)

    def test_hats_kinds_and_stop_words_that_are_none(self):
        for line in ("script", "script up", "script key", "script news", "script key a b", "script flag a",
                     "script touch a", "script born 1", "script Flag", "script key 1", "script turn"):
            self.expect_line(HEAD[:4], line, False)
        for line in ("stop", "stop none", "stop Run", "stop run run", "stop a"):
            self.expect_line(HEAD, line, False)

    def test_plain_figures(self):
        for figures in ("00", "01", "-0", "-00", "-01", "+1", "+0", "--1", "-", "1-", "1.0", "1e3", "0x1", "1_0", "one",
                        "", "007", "-a"):
            for line in ("ground {} 4", "ground 4 {}"):
                self.expect_line([], line.format(figures), False)
            for line in ("name n {}", "list n {}", "list n 1 {} 1", "figure a {} 0 0", "figure a 0 {} 0",
                         "figure a 0 0 {}"):
                self.expect_line(HEAD[:1], line.format(figures), False)
            for line in ("move {}", "say plus {} 1", "say plus 1 {}", "until like {} 1", "do hop {}", "times {}"):
                self.expect_line(HEAD, line.format(figures), False)
        for figures in ("0", "1", "-1", "10", "-10", "1000000", "-1000000"):
            self.expect_line(HEAD, f"say {figures}", True)

    def test_how_great_is_no_matter_of_a_line(self):
        for figures in ("1000001", "-1000001", "9" * 20, "-" + "9" * 20, "1" + "0" * 140):
            self.expect([*HEAD, f"say {figures}", "show"], len(HEAD) + 2)
            self.expect(["ground 5 4", f"name n {figures}", "figure a 0 0 0"], 3)
            self.expect(["ground 5 4", f"list n {figures}", "figure a 0 0 0"], 3)
            self.expect([f"ground {figures} 4", "figure a 0 0 0"], 2)
            self.expect(["ground 5 4", f"figure a 0 0 {figures}"], 2)
        # Nor is a minus where nothing below 0 can be.
        for ground in ("ground -5 4", "ground 0 4", "ground 5 21", "ground 5 -4"):
            self.expect([ground, "figure a 0 0 0"], 2)
        for spot in ("-1 0 0", "5 0 0", "0 4 0", "0 -1 0", "0 0 4", "0 0 -1"):
            self.expect(["ground 5 4", f"figure a {spot}"], 2)

    def test_how_deep_is_no_matter_of_a_line(self):
        self.expect([*HEAD, "until " + "not " * 35 + "like 1 1", "show"], len(HEAD) + 2)
        self.expect([*HEAD, "say " + "by " * 20 + "1 " * 20 + "1", "show"], len(HEAD) + 2)
        self.expect_line(HEAD, "say " + "by " * 20 + "1 " * 19 + "1", False, tail=["show"])
        self.expect_line(HEAD, "say " + "by " * 20 + "1 " * 21 + "1", False, tail=["show"])
        for many in (4, 5, 50, 190):
            self.expect([*HEAD, *["ever"] * many, *["done"] * many], len(HEAD) + 2 * many)
            self.expect([*HEAD, *["if like 1 1", "else"] * many, *["done"] * many], len(HEAD) + 3 * many)
            self.expect([*HEAD, *["ever"] * many, "else", *["done"] * many], len(HEAD) + many)
        self.expect([*HEAD, *["ever"] * 390], len(HEAD) + 390)
        self.expect([*HEAD, *["ever"] * 3, *["done"] * 3], None)

    def test_parts_that_are_none(self):
        for line in ("move like 1 1", "move meets cat", "until 1", "until name n", "until plus 1 1", "say name",
                     "say item bag", "say item 1 bag", "say many", "say x 1", "say x y", "until not", "until not 1",
                     "until both like 1 1", "until both like 1 1 1", "until like 1", "until like 1 meets cat", "if",
                     "if 1", "times", "times like 1 1", "while 1", "ever 1", "until meets", "set n", "set n name",
                     "write bag 1", "say plus", "say plus 1"):
            self.expect_line(HEAD, line, False, tail=["done"])

    def test_what_is_no_play(self):
        alone = ["ground 5 4", "figure a 0 0 0"]
        for lines in (alone[:1], [alone[0], "name n 1"], [*alone, alone[1]],
                      [alone[0], "name n 1", "name n 1", alone[1]],
                      [alone[0], *[f"name {name} 1" for name in "abcde"], alone[1]],
                      [alone[0], *[f"list {name}" for name in "abc"], alone[1]],
                      [alone[0], *[f"figure {name} 0 0 0" for name in "abcde"]],
                      [*alone, *[f"piece {name} open" for name in "abcd"]], [*alone, *["script flag"] * 7],
                      [*alone, "piece p open a a"], [*alone, "piece p open", "piece p open"]):
            self.expect(lines, len(lines))
        for deeds in (["show"] * 9, ["ever", *["show"] * 9, "done"], ["say name m"], ["set a 1"], ["until meets dog"],
                      ["copy dog"], ["do hip"], ["put heap 1"], ["say name a"], ["ever", "say name a", "done"]):
            self.expect([*HEAD, *deeds], len(HEAD) + len(deeds))
        for lines in ([*HEAD, *["show"] * 8], [*alone, *["script flag"] * 6]):
            self.expect(lines, None)

    def test_a_missing_done(self):
        for inner in ([], ["show"], ["else"], ["show", "else", "hide"]):
            for lines in ([*HEAD, "if like 1 1", *inner], [*HEAD, "ever", "if like 1 1", *inner, "done"]):
                self.expect(lines, len(lines))
        self.expect([*HEAD, "ever"], len(HEAD) + 1)
        # What follows can't stand there.
        for line in ("figure dog 0 0 0", "piece p open", "script flag", "name n 1", "list l 1", "ground 5 4"):
            for head in (["ever"], ["ever", "show"], ["if like 1 1"], ["if like 1 1", "else"],
                         ["ever", "times 1", "done"]):
                self.expect_line([*HEAD, *head], line, False, tail=["done"])

    def test_a_missing_ground(self):
        lines = RICH_TEXT.split("\n")
        self.expect(lines[1:], 0)
        self.expect([lines[1], lines[0], *lines[2:]], 0)
        self.expect("figure a 0 0 0", 0)
        self.expect("done", 0)

    def test_done_and_else_without_a_head(self):
        for line in ("done", "else"):
            for head in ([], HEAD[:1], HEAD[:2], HEAD[:3], HEAD[:4], HEAD[:5], HEAD, [*HEAD, "show"],
                         [*HEAD, "ever", "done"], [*HEAD, "if like 1 1", "done"],
                         [*HEAD, "if like 1 1", "else", "done"]):
                self.expect_line(head, line, False, tail=["show"])
        for head in ("ever", "times 1", "while like 1 1"):
            self.expect_line([*HEAD, head], "else", False, tail=["done"])
            self.expect_line([*HEAD, head, "show"], "else", False, tail=["done"])
            self.expect_line([*HEAD, "if like 1 1", head], "else", False, tail=["done", "done"])
            self.expect_line([*HEAD, "if like 1 1", head, "done"], "else", True, tail=["done"])

    def test_a_second_else(self):
        self.expect_line([*HEAD, "if like 1 1", "else"], "else", False, tail=["done"])
        self.expect_line([*HEAD, "if like 1 1", "show", "else", "hide"], "else", False, tail=["done"])
        inner = ["if like 1 1", "else", "if like 1 1"]
        self.expect_line([*HEAD, *inner], "else", True, tail=["done", "done"])
        self.expect_line([*HEAD, *inner, "else"], "else", False, tail=["done", "done"])
        self.expect_line([*HEAD, *inner, "done"], "else", False, tail=["done"])

    def test_each_sort_where_it_can_stand(self):
        lines = {"ground": "ground 5 4", "name": "name m 1", "list": "list row 1", "figure": "figure dog 0 0 0",
                 "piece": "piece dig open", "script": "script touch", "deed": "show", "head": "ever", "else": "else",
                 "done": "done"}
        cat = ["ground 5 4", "figure cat 0 0 0"]
        own = {"name", "list", "figure", "piece", "script"}
        within = {"deed", "head", "done"}
        for head, can in (
            ([], {"ground"}), (cat[:1], {"name", "list", "figure"}),
            ([*cat[:1], "name n 1"], {"name", "list", "figure"}),
            ([*cat[:1], "list l"], {"list", "figure"}), ([*cat[:1], "name n 1", "list l"], {"list", "figure"}),
            (cat, own), ([*cat[:1], "list l", cat[1]], own), ([*cat, "name n 1"], own),
            ([*cat, "list l"], own - {"name"}), ([*cat, "name n 1", "list l"], own - {"name"}),
            ([*cat, "piece p open"], {"piece", "script", "figure", "deed", "head"}),
            ([*cat, "piece p open", "hide"], {"piece", "script", "figure", "deed", "head"}),
            ([*cat, "script flag"], {"script", "figure", "deed", "head"}),
            ([*cat, "piece p open", "script flag"], {"script", "figure", "deed", "head"}),
            ([*cat, "script flag", "ever", "done"], {"script", "figure", "deed", "head"}),
            ([*cat, "script flag", "figure owl 0 0 0"], own), ([*cat, "piece p open", "hide", "figure owl 0 0 0"], own),
            ([*cat, "list l", "figure owl 0 0 0"], own), ([*cat, "name n 1", "figure owl 0 0 0"], own),
            ([*cat, "script flag", "ever"], within), ([*cat, "piece p open", "while like 1 1", "hide"], within),
            ([*cat, "script flag", "if like 1 1"], within | {"else"}),
            ([*cat, "script flag", "if like 1 1", "hide", "ever", "done"], within | {"else"}),
            ([*cat, "script flag", "if like 1 1", "else"], within),
            ([*cat, "script flag", "if like 1 1", "ever"], within),
        ):
            for sort, line in lines.items():
                # A line that stands nowhere tells how far all that is ahead of it could stand.
                self.expect([*head, line, "nowhere"], len(head) + 1 if sort in can else len(head))

    def test_the_first_of_several(self):
        self.expect(["ground 5 4", "figure cat 0 0 0", "show", "ground 5 4", "wrong"], 2)
        self.expect(["ground 5 4", "wrong", "show"], 1)
        self.expect([*HEAD, "done", "wrong"], len(HEAD))
        # That it is no play comes behind all lines.
        self.expect(["ground 0 0", "wrong"], 1)
        self.expect(["ground 0 0", "figure a 0 0 0", "script flag", "say name n", "ever", "wrong"], 5)


if __name__ == "__main__":
    unittest.main()
