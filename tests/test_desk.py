import unittest

from figuredeeds import errors
from figuredeeds.desk import run
from figuredeeds.errors import BadLine
from figuredeeds.replays import as_of
from figuredeeds.stage import Stage
from figuredeeds.texts import play_text
from tests.plays_at_hand import RICH, figure, play_of, script
from tests.random_plays import KEYS, NEWS, Maker

CAT = figure(
    "cat", script("flag", ("say", 1), ("copy", None), ("await", "tea"), ("say", -2), ("hide",)),
    script("news tea", ("wait", 1), ("add", "n", 1)), script("touch", ("move", 1), ("say", ("x",)), ("wait", 9)),
    script("born", ("turn", 1), ("say", ("over", 1, 0))), names=(("n", 0), ("m", -3)),
    lists=(("bag", (4, -5)), ("sack", ())))
DOG = figure("dog", script("flag", ("ever", (("move", 1),))), script("key up", ("put", "heap", 1)), spot=(0, 1, 0))
OURS = play_of(CAT, DOG, names=(("all", 3),), lists=(("heap", (9,)),))
TEXT = play_text(OURS)
COUNT = len(TEXT.split("\n"))
BARE = "ground 2 3\nfigure cat 0 0 0"


def desk(*lines, text=TEXT, **more):
    return run("\n".join([text, "stage", *lines]), **more)


def rows(told):
    """Several rows of words as a desk tells them."""
    return "; ".join(" ".join(str(part) for part in row) for row in told) or "-"


class Answers(unittest.TestCase):
    def expect(self, lines, answers, **more):
        self.assertEqual(desk(*lines, **more), answers)

    def test_nothing_behind_stage(self):
        self.expect([], [])

    def test_happenings_and_start_are_ok(self):
        lines = ["flag", "key up", "key nokey", "touch cat 0", "touch dog 0", "news tea", "news none", "start"]
        self.expect(lines, ["ok"] * 8)

    def test_turns_tell_how_many_goes_there_were(self):
        # The copy, born in the first turn, falls in the second; who waits for tea goes on in the fourth.
        self.expect(["turn", "flag", "turn", "turn", "turn", "turn", "turn"], ["0", "ok", "2", "5", "4", "2", "1"])
        self.expect(["flag", "turns 3", "turns 1", "turns 50"], ["ok", "11", "2", "50"])
        self.expect(["turns 50", "log"], ["0", "50"])
        self.expect(["flag", "turns 3", "log"], ["ok", "11", "4"])

    def test_start_step_and_rest(self):
        self.expect(["flag", "start", "step", "step", "step", "log", "turn"],
                    ["ok", "ok", "cat 0 0", "dog 0 0", "-", "2", "5"])
        self.expect(["flag", "turn", "start", "step", "rest", "log"], ["ok", "2", "ok", "cat 0 0", "4", "3"])
        self.expect(["start", "rest", "start", "step"], ["ok", "0", "ok", "-"])
        self.expect(["flag", "turn", "start", "step", "step", "step", "step", "step"],
                    ["ok", "2", "ok", "cat 0 0", "dog 0 0", "cat 1 3", "cat 0 1", "cat 1 1"])

    def test_ones(self):
        self.expect(["ones", "flag", "turn", "ones", "flag", "ones"],
                    ["cat 0; dog 0", "ok", "2", "cat 0; cat 1; dog 0", "ok", "cat 0; dog 0"])

    def test_spots(self):
        self.expect(["spot dog 0", "flag", "turns 2", "spot dog 0", "spot cat 0", "spot cat 1"],
                    ["0 1 0", "ok", "7", "2 1 0", "0 0 0", "0 0 1"])

    def test_names_and_lists(self):
        self.expect(["names", "lists", "names cat 0", "lists cat 0", "names dog 0", "lists dog 0"],
                    ["all 3", "heap 9", "n 0; m -3", "bag 4 -5; sack", "-", "-"])
        self.expect(["flag", "key up", "turns 3", "names cat 0", "names cat 1", "lists", "lists cat 1"],
                    ["ok", "ok", "12", "n 1; m -3", "n 1; m -3", "heap 9 1", "bag 4 -5; sack"])
        self.expect(["names", "lists"], ["-", "-"], text=BARE)
        self.expect(["names", "lists"], ["a 1; b -2", "c; d 0"],
                    text="ground 2 3\nname a 1\nname b -2\nlist c\nlist d 0\nfigure cat 0 0 0")

    def test_runs_and_how_many_items_their_rests_have(self):
        self.expect(["runs", "flag", "runs", "turn", "runs", "touch cat 1", "runs"],
                    ["-", "ok", "cat 0 0 5; dog 0 0 1", "2", "cat 0 0 3; dog 0 0 1; cat 1 3 2; cat 0 1 2; cat 1 1 2",
                     "ok", "cat 0 0 3; dog 0 0 1; cat 1 3 2; cat 0 1 2; cat 1 1 2; cat 1 2 3"])
        self.expect(["flag", "runs"], ["ok", "a 0 0 0"], text="ground 1 1\nfigure a 0 0 0\nscript flag")

    def test_seen_is_the_view(self):
        self.expect(["seen", "flag", "turn", "seen"],
                    ["cat 0 0 0; dog 0 1 0", "ok", "2", "cat 0 0 0; cat 0 0 0; dog 1 1 0"])
        hides = "ground 1 1\nfigure a 0 0 0\nscript flag\nsay 1\nhide"
        self.expect(["flag", "turn", "seen"], ["ok", "1", "-"], text=hides)

    def test_said_and_fell_are_of_the_whole_tale(self):
        self.expect(["said", "fell", "flag", "turn", "said", "fell", "turns 3", "said", "fell"],
                    ["-", "-", "ok", "2", "0 cat 0 1", "-", "11", "0 cat 0 1; 3 cat 0 -2", "1 cat 1 nought"])
        self.expect(["touch cat 0", "turn", "flag", "turn", "said"], ["ok", "1", "ok", "2", "0 cat 0 1; 1 cat 0 1"])

    def test_log_is_how_many_entries(self):
        self.expect(["log", "flag", "log", "turns 3", "log", "start", "log", "step", "log", "rest", "log"],
                    ["0", "ok", "1", "11", "4", "ok", "4", "cat 0 0", "4", "1", "5"])

    def test_as_of_so_many_turns(self):
        self.expect(["flag", "turn", "as 0", "as 1", "flag", "turn", "as 0", "as 1", "as 2", "ones"],
                    ["ok", "2", "cat 0; dog 0", "cat 0; cat 1; dog 0", "ok", "2", "cat 0; dog 0", "cat 0; cat 1; dog 0",
                     "cat 0; cat 1; dog 0", "cat 0; cat 1; dog 0"])
        self.expect(["as 0"], ["cat 0"], text=BARE)
        # An open turn isn't over, and stays open.
        self.expect(["flag", "turn", "start", "step", "as 1", "as 2", "step"],
                    ["ok", "2", "ok", "cat 0 0", "cat 0; cat 1; dog 0", "refused NoTurn", "dog 0 0"])

    def test_most_and_copies(self):
        self.expect(["flag", "turn", "fell"], ["ok", "2", "0 cat 0 full"], copies=0)
        self.expect(["flag", "turn", "fell"], ["ok", "2", "0 cat 0 long; 0 dog 0 long"], most=2)
        self.expect(["flag", "turn", "ones"], ["ok", "2", "cat 0; dog 0"], most=1, copies=12)
        many = "ground 1 1\nfigure a 0 0 0\nscript flag\n" + "copy\n" * 7 + "copy"
        for more, ones in (({}, 7), ({"copies": 7}, 8), ({"copies": 12}, 9)):
            answers = desk("flag", "turn", "ones", text=many, **more)
            self.assertEqual(answers[2], "; ".join(f"a {number}" for number in range(ones)))
        loop = "ground 1 1\nfigure a 0 0 0\npiece p closed\never\nshow\ndone\nscript flag\ndo p"
        self.assertEqual(desk("flag", "turn", "fell", text=loop), ["ok", "1", "0 a 0 long"])

    def test_told_anew_each_time(self):
        text = "\n".join([TEXT, "stage", "flag", "turn", "ones"])
        told = run(text)
        self.assertIs(type(told), list)
        self.assertEqual({type(answer) for answer in told}, {str})
        told.append("changed")
        self.assertEqual(run(text), told[:-1])

    def test_by_names(self):
        self.assertEqual(run(copies=0, most=1, text=BARE + "\nstage\nones"), ["cat 0"])


class Refused(unittest.TestCase):
    def test_in_an_open_turn(self):
        for line in ("flag", "key up", "touch cat 0", "touch cow 7", "news tea", "turn", "turns 3", "start"):
            answers = desk("flag", "start", "runs", "log", line, "runs", "log", "step")
            self.assertEqual(answers[4], "refused Open")
            self.assertEqual(answers[2:4], answers[5:7])
            self.assertEqual(answers[7], "cat 0 0")

    def test_with_none_open(self):
        for line in ("step", "rest"):
            self.assertEqual(desk("flag", line, "log", "turn", line),
                             ["ok", "refused NotOpen", "1", "2", "refused NotOpen"])
            self.assertEqual(desk("start", "rest", line), ["ok", "0", "refused NotOpen"])
            self.assertEqual(desk("start", "step", line), ["ok", "-", "refused NotOpen"])

    def test_who_is_not_there(self):
        for word in ("touch", "spot", "names", "lists"):
            for one in ("cow 0", "cat 1", "dog 2", "cat 999999999"):
                self.assertEqual(desk(f"{word} {one}", "log"), ["refused NoOne", "0"])
            self.assertNotIn("refused", desk("flag", "turn", f"{word} cat 1")[2])
            self.assertEqual(desk("flag", "turn", "flag", f"{word} cat 1")[3], "refused NoOne")

    def test_more_turns_than_are_over(self):
        self.assertEqual(desk("as 1", "turn", "as 1", "as 2", "as 999999999", "log"),
                         ["refused NoTurn", "0", "cat 0; dog 0", "refused NoTurn", "refused NoTurn", "1"])

    def test_they_are_named_as_their_classes_are(self):
        answers = desk("step", "as 1", "spot cow 0", "start", "flag")
        names = [error.__name__ for error in (errors.NotOpen, errors.NoTurn, errors.NoOne, errors.Open)]
        self.assertEqual([*answers[:3], answers[4]], [f"refused {name}" for name in names])

    def test_what_is_refused_changes_nothing_and_the_others_go_on(self):
        lines = ["flag", "turn", "key up", "turns 2", "ones", "runs", "seen", "said", "fell", "log", "lists"]
        wrong = ["step", "touch cow 0", "rest", "as 40", "spot dog 3", "names cow 1", "lists cat 8"]
        mixed = [line for right in lines for line in (*wrong, right)]
        answers = desk(*mixed)
        self.assertEqual([answer for answer in answers if not answer.startswith("refused")], desk(*lines))
        self.assertEqual(len([answer for answer in answers if answer.startswith("refused")]), len(wrong) * len(lines))


class BadLines(unittest.TestCase):
    def expect(self, text, number):
        with self.subTest(text=text):
            if number is None:
                run(text)
                return
            with self.assertRaises(BadLine) as caught:
                run(text)
            self.assertEqual(caught.exception.line, number)

    def expect_line(self, line, right):
        """The line is so written, or is refused by its number in the whole text, wherever it stands."""
        self.expect("\n".join([TEXT, "stage", line]), None if right else COUNT + 1)
        self.expect("\n".join([TEXT, "stage", "flag", "turn", line, "ones"]), None if right else COUNT + 3)
        if not right:
            self.expect("\n".join([TEXT, "stage", "ones", line, line, "wrong"]), COUNT + 2)

    def test_each_line_with_words_too_few_and_too_many(self):
        for words in ("flag", "key up", "touch cat 0", "news tea", "turn", "turns 3", "start", "step", "rest", "ones",
                      "spot cat 0", "names", "names cat 0", "lists", "lists cat 0", "runs", "seen", "said", "fell",
                      "log", "as 3"):
            self.expect_line(words, True)
            first, *others = words.split(" ")
            for many in range(len(others)):
                # Names and lists may stand alone.
                self.expect_line(" ".join([first, *others[:many]]), first in ("names", "lists") and many == 0)
            more = words in ("names", "lists")
            for tail in ("0", "a", "-1", "flag"):
                self.expect_line(f"{words} {tail}", False)
            self.expect_line(f"{words} cat 0", more)
            self.expect_line(f"{words} cat 0 0", False)

    def test_words_of_no_line(self):
        for line in ("", " ", "a", "Flag", "FLAG", "stage", "ground 1 1", "figure a 0 0 0", "show", "done", "tale",
                     "state", "is", "shown cat 0", "len", "born", "copy", "1", "-", "flag;", "ok", "stop all", "go"):
            self.expect_line(line, False)

    def test_blanks_and_line_feeds(self):
        for line in (" flag", "flag ", "key  up", "key up ", " key up", "touch cat  0", "key\tup", "flag\r", "names ",
                     "turn\t"):
            self.expect_line(line, False)
        self.expect(TEXT + "\nstage\n", COUNT + 1)
        self.expect(TEXT + "\nstage\nflag\n", COUNT + 2)
        self.expect(TEXT + "\nstage\n\nflag", COUNT + 1)
        self.expect(TEXT + "\nstage", None)

    def test_names_that_are_none(self):
        for name in ("A", "abcdefghi", "a1", "1", "-", "Cat", "0", "a-b"):
            for line in ("key {}", "news {}", "touch {} 0", "spot {} 0", "names {} 0", "lists {} 0"):
                self.expect_line(line.format(name), False)
        for name in ("a", "abcdefgh", "flag", "stage"):
            for line in ("key {}", "news {}", "touch {} 0", "spot {} 0", "names {} 0", "lists {} 0"):
                self.expect_line(line.format(name), True)

    def test_figures_of_nine_signs_and_of_ten(self):
        for line in ("touch cat {}", "spot cat {}", "names cat {}", "lists cat {}", "as {}"):
            for figures in ("0", "1", "9", "10", "50", "51", "123456789", "999999999", "100000000"):
                self.expect_line(line.format(figures), True)
            for figures in ("1000000000", "1234567890", "9" * 12, "9" * 100, "00", "01", "000000001", "-0", "-1",
                            "-10", "+1", "1.0", "a", "", "1_0", "0x1", "-"):
                self.expect_line(line.format(figures), False)

    def test_turns_of_one_to_fifty(self):
        for figures in ("1", "2", "9", "10", "49", "50"):
            self.expect_line(f"turns {figures}", True)
        for figures in ("0", "51", "52", "100", "999999999", "1000000000", "01", "-1", "-0", "+1", "a", "00", "050"):
            self.expect_line(f"turns {figures}", False)

    def test_ahead_of_all_answers(self):
        # The first wrong one goes, though others ahead of it would be refused at the desk.
        self.expect("\n".join([TEXT, "stage", "step", "touch cow 0", "key", "turns 0"]), COUNT + 3)

    def test_stage_twice(self):
        self.expect("\n".join([TEXT, "stage", "stage"]), COUNT + 1)
        self.expect("\n".join([TEXT, "stage", "flag", "stage", "turn"]), COUNT + 2)
        self.expect("\n".join([TEXT, "stage now", "stage"]), COUNT)
        self.expect("\n".join([TEXT, "stage", "stage now"]), COUNT + 1)

    def test_stage_first(self):
        self.expect("stage", 0)
        self.expect("stage\nflag", 0)
        self.expect("stage\nwrong", 0)
        self.expect("stage\n" + TEXT, 0)
        self.expect("\nstage", 0)

    def test_stage_wanting(self):
        self.expect(TEXT, COUNT)
        self.expect("", 0)
        self.expect("flag", 0)
        self.expect(TEXT + "\nflag", COUNT)
        self.expect(TEXT + "\n", COUNT)
        self.expect(BARE, 2)
        self.expect(BARE + "\nturn", 2)
        self.expect(BARE + "\nflag\nstage ", 2)
        self.expect(BARE + "\nStage", 2)
        # All can stand there, though it is no play, or something is wanting.
        self.expect("ground 0 0", 1)
        self.expect("ground 5 4\nfigure a 0 0 0\nscript flag\never", 4)
        self.expect("ground 5 4\nname a 1", 2)
        self.expect("ground 5 4\nwrong\nname a", 1)
        self.expect("ground 5 4\nfigure a 0 0 0\nname a 1\nground 5 4\nflag", 3)

    def test_as_in_a_plays_text_ahead_of_stage(self):
        for lines, number in ((["ground 5"], 0), (["figure a 0 0 0"], 0), (["ground 5 4", "flag"], 1),
                              (["ground 5 4", "figure a 0 0 0", "show"], 2), (["ground 5 4", ""], 1),
                              (["ground 5 4", "figure a 0 0 0", "done"], 2), ([" ground 5 4"], 0)):
            for tail in ([], ["flag"], ["wrong"], ["", "wrong"]):
                self.expect("\n".join([*lines, "stage", *tail]), number)

    def test_no_play_ahead_of_stage_counts_those_lines_alone(self):
        alone = ["ground 5 4", "figure a 0 0 0"]
        for lines in (alone[:1], ["ground 0 0", alone[1]], [*alone, "script flag", "ever"], [*alone, alone[1]],
                      [*alone, "script flag", "say name n"]):
            for tail in ([], ["flag", "turn"], ["wrong"], ["done", "stage"]):
                self.expect("\n".join([*lines, "stage", *tail]), len(lines))


class LedTheSameWay(unittest.TestCase):
    """What a desk answers is what a stage that is led the same way tells."""

    def asked(self, stage, line):
        """The answer to a line, by the stage itself."""
        word, *parts = line.split(" ")
        one = (parts[0], int(parts[1])) if len(parts) == 2 else (None, 0)
        try:
            return self.answer(stage, word, parts, one)
        except (errors.Open, errors.NotOpen, errors.NoOne, errors.NoTurn) as refused:
            return f"refused {type(refused).__name__}"

    def answer(self, stage, word, parts, one):
        name, number = one
        if word in ("flag", "start", "key", "news", "touch"):
            more = {"number": number} if word == "touch" else {}
            self.assertIsNone(getattr(stage, word)(*parts[:1], **more))
            return "ok"
        if word in ("turn", "rest"):
            return str(getattr(stage, word)())
        if word == "turns":
            return str(sum(stage.turn() for _ in range(int(parts[0]))))
        if word == "step":
            told = stage.step()
            return "-" if told is None else rows([told])
        if word == "spot":
            return rows([stage.spot(name, number=number)])
        if word == "names":
            return rows(stage.names(figure=name, number=number))
        if word == "lists":
            return rows([(row, *values) for row, values in stage.lists(figure=name, number=number)])
        if word == "runs":
            return rows([(*told[:3], len(told[3])) for told in stage.runs()])
        if word in ("said", "fell"):
            return rows([(*told[:3], told[4]) for told in stage.tale() if told[3] == word])
        return {"ones": lambda: rows(stage.ones()), "seen": lambda: rows(stage.seen()[0]),
                "log": lambda: str(len(stage.log())), "as": lambda: rows(as_of(stage, int(parts[0])).ones())}[word]()

    def line(self, maker):
        one = f"{maker.one_of('cat', 'dog', 'owl')} {maker.one_of(0, 0, 1, 2)}"
        return maker.one_of(
            "flag", f"key {maker.one_of(*KEYS)}", f"touch {one}", f"news {maker.one_of(*NEWS)}", "start", "ones",
            "runs", f"spot {one}", f"names {one}", f"lists {one}", "names", "lists", "seen", "said", "fell", "log",
            f"as {maker.one_of(0, 1, 2, 5, 9)}", *["turn"] * 4, *["step"] * 4, *["rest"] * 2,
            f"turns {maker.one_of(1, 2, 3)}")

    def test_by_chance(self):
        seen = set()
        for seed in range(120):
            maker = Maker(seed)
            play, most, copies = maker.play(), maker.one_of(3, 30, 100), maker.one_of(0, 2, 6)
            lines = [self.line(maker) for _ in range(40)]
            stage = Stage(play, most=most, copies=copies)
            wanted = [self.asked(stage, line) for line in lines]
            self.assertEqual(run("\n".join([play_text(play), "stage", *lines]), most=most, copies=copies), wanted)
            seen |= {answer for answer in wanted if answer.startswith("refused")}
        self.assertEqual(seen, {"refused Open", "refused NotOpen", "refused NoOne", "refused NoTurn"})

    def test_four_hundred_lines(self):
        head = play_text(RICH).split("\n")
        lines = ["flag", "turn", "seen", "said"] * ((400 - len(head) - 1) // 4)
        stage = Stage(RICH)
        self.assertEqual(run("\n".join([*head, "stage", *lines])), [self.asked(stage, line) for line in lines])


if __name__ == "__main__":
    unittest.main()
