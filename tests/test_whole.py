"""What the whole program promises, of plays with several figures, copies, news and closed pieces at once."""

import unittest

from figuredeeds.desk import run
from figuredeeds.errors import TooMany
from figuredeeds.papers import alike_paper, shows_alike
from figuredeeds.parting import parted, shows_parted
from figuredeeds.replays import as_of, replay, shows_log
from figuredeeds.stage import Stage
from figuredeeds.texts import play_in, play_text
from tests.random_plays import Maker

# The cook calls for tea and waits till all who bring it are done; the maid has a closed piece, and copies of her
# bring it, too; the cat falls, and nobody minds.
HOUSE = """ground 6 3
name cups 0
list tray 9
figure cook 0 0 0
name calls 0
script flag
copy maid
times 2
add calls 1
await tea
say name cups
done
stop all
script key ring
await tea
say -1
figure maid 1 1 0
name steps 1
piece carry closed far
times name far
move 1
set cups rest plus name cups 1 4
done
write tray 0 number
script born
set steps 2
script news tea
wait name steps
do carry name steps
if below 0 number
end
done
figure cat 5 2 2
piece nap closed
wait 1
script flag
ever
move 1
if like x 3
do nap
done
done
script news tea
say over 1 0"""


class House(unittest.TestCase):
    def ask(self, *lines):
        return run("\n".join([HOUSE, "stage", *lines]))

    def test_runs_have_their_goes_in_the_order_in_which_they_were_begun(self):
        self.assertEqual(self.ask("flag", "runs", "turn", "runs", "ones"), [
            "ok", "cook 0 0 3; cat 0 0 1", "2",
            # The cook's news began a run of each maid and of the cat, behind the copy's being born.
            "cook 0 0 4; cat 0 0 1; maid 1 0 1; maid 0 1 3; maid 1 1 3; cat 0 1 1", "cook 0; maid 0; maid 1; cat 0"])
        self.assertEqual(self.ask("flag", "turn", "start", *["step"] * 7), [
            "ok", "2", "ok", "cook 0 0", "cat 0 0", "maid 1 0", "maid 0 1", "maid 1 1", "cat 0 1", "-"])

    def test_who_waits_goes_on_when_all_that_it_began_are_over(self):
        lines = ["flag", *["turn", "names", "names cook 0", "lists", "said", "ones"] * 9]
        answers = self.ask(*lines)
        rows = [tuple(answers[at:at + 6]) for at in range(1, len(answers), 6)]
        both, one = "cook 0; maid 0; maid 1; cat 0", "cook 0; maid 0; cat 0"
        first = "4 cook 0 3"
        self.assertEqual(rows, [
            ("2", "cups 0", "calls 1", "tray 9", "-", both),
            ("6", "cups 0", "calls 1", "tray 9", "-", both),
            # The maid is done; her copy, who set her own steps when she was born, waits one turn more.
            ("3", "cups 1", "calls 1", "tray 0", "-", both),
            ("2", "cups 3", "calls 1", "tray 1", "-", one),
            ("1", "cups 3", "calls 1", "tray 1", first, one),
            ("1", "cups 3", "calls 2", "tray 1", first, one),
            ("3", "cups 3", "calls 2", "tray 1", first, one),
            ("2", "cups 0", "calls 2", "tray 0", first, one),
            ("1", "cups 0", "calls 2", "tray 0", f"{first}; 8 cook 0 0", one),
        ])

    def test_what_falls_is_over_and_all_others_go_on(self):
        answers = self.ask("flag", "turns 9", "fell", "runs", "turn", "runs", "ones")
        self.assertEqual(answers[2:], ["1 cat 0 closed; 1 cat 0 nought; 6 cat 0 nought", "cook 0 0 2", "1", "-",
                                       "cook 0; maid 0; cat 0"])

    def test_of_an_ended_copy_nothing_is_left(self):
        answers = self.ask("flag", "turns 4", "ones", "runs", "spot maid 1", "names maid 1", "touch maid 1",
                           "flag", "turn", "ones", "names maid 1", "spot maid 1")
        self.assertEqual(answers[2:], ["cook 0; maid 0; cat 0", "cook 0 0 4", *["refused NoOne"] * 3, "ok", "2",
                                       "cook 0; maid 0; maid 1; cat 0", "steps 1", "2 1 0"])

    def test_two_that_wait_for_the_same_news(self):
        # The ring begins tea anew: who waited for the runs that are over then goes on.
        self.assertEqual(self.ask("flag", "turn", "key ring", "turn", "said", "runs", "turn", "said"), [
            "ok", "2", "ok", "7", "-", "cook 0 0 4; cook 0 1 2; maid 0 1 3; maid 1 1 3; cat 0 1 1", "5", "2 cook 0 0"])

    def test_it_comes_to_the_same_again(self):
        stage = Stage(play_in(HOUSE))
        kept = [stage.twin()]
        for happen in (stage.flag, lambda: stage.key("ring"), lambda: stage.news("tea"), lambda: stage.touch("cat")):
            happen()
            for _ in range(4):
                stage.turn()
                kept.append(stage.twin())
        self.assertEqual(replay(stage.play, stage.log()), stage)
        self.assertIs(shows_log(stage.play, stage.log()), True)
        for many, then in enumerate(kept):
            self.assertEqual(as_of(stage, many), then)
            self.assertEqual(as_of(stage, many).tale(), then.tale())

    def test_alike_and_parted(self):
        play = play_in(HOUSE)
        self.assertEqual(play_text(play), HOUSE)
        flag, turn, ring = ("flag",), ("turn",), ("key", "ring")
        # A closed piece is done in one go: how its rounds are written isn't seen.
        rounds = "times name far\nmove 1\nset cups rest plus name cups 1 4\ndone"
        alike = play_in(HOUSE.replace(rounds, "move name far\nset cups rest plus name cups name far 4"))
        self.assertNotEqual(alike, play)
        for happenings in ([ring], [ring, ("touch", "cat", 0)]):
            paper = alike_paper(play, alike, happenings)
            self.assertGreater(len(paper), 20)
            self.assertIs(shows_alike(play, alike, happenings, paper), True)
            self.assertIsNone(parted(play, alike, happenings))
        # An open one gives its goes away, which is seen when the copy comes to it.
        other = play_in(HOUSE.replace("carry closed", "carry open"))
        row = parted(play, other, [flag, turn])
        self.assertEqual(row, [flag, turn, turn, turn])
        self.assertIs(shows_parted(play, other, [flag, turn], row), True)


class Steps(unittest.TestCase):
    """What a go changes, and what it leaves as it is, by chance."""

    def test_each_go(self):
        words = set()
        for seed in range(150):
            maker = Maker(seed + 1000)
            stage = Stage(maker.play(), most=maker.one_of(5, 30, 100), copies=maker.one_of(1, 3, 6, 12))
            for _ in range(20):
                maker.happen(stage)
                stage.start()
                while stage.is_open():
                    self.step(stage)
            words |= {entry[3:] if entry[3] == "fell" else entry[3] for entry in stage.tale()}
        self.assertLessEqual({"said", "came", "went", ("fell", "closed"), ("fell", "full"), ("fell", "long")}, words)

    def step(self, stage):
        ones, runs, entries = self.ones(stage), stage.runs(), len(stage.tale())
        goer = stage.step()
        if goer is None:
            self.assertEqual((self.ones(stage), stage.runs()), (ones, runs))
            return
        self.assertIn(goer, [row[:3] for row in runs])
        tale = stage.tale(first=entries)
        self.check_ones(goer, ones, self.ones(stage), tale)
        self.check_runs(goer, runs, stage.runs(), stage.play, tale)

    def ones(self, stage):
        return {row[:2]: row[2:] for row in stage.state()[2]}

    def check_ones(self, goer, before, after, tale):
        """Others are as they were, and who came or went is told."""
        for one in before:
            if one in after and one != goer[:2] and one not in self.told(tale, "came"):
                self.assertEqual(after[one], before[one])
        there = list(before)
        for _, name, number, word, _ in tale:
            if word == "came":
                # The least number that none of the figure has.
                taken = [other for figure, other in there if figure == name]
                self.assertEqual(number, min(set(range(1, 14)) - set(taken)))
                there.append((name, number))
            elif word == "went":
                there.remove((name, number))
        self.assertEqual(sorted(there), sorted(after))

    def told(self, tale, word):
        return [entry[1:3] for entry in tale if entry[3] == word]

    def check_runs(self, goer, before, after, play, tale):
        """Other runs that go on are as they were, in the same order; all else is begun anew, behind them."""
        blocks = {(figure[0], at): block for figure in play[3] for at, (_, block) in enumerate(figure[5])}
        old = [row[:5] for row in before if row[:3] != goer]
        begun = False
        for row in after:
            if row[:5] in old and not begun:
                old = old[old.index(row[:5]) + 1:]
            elif row[:3] != goer or begun:
                begun = True
                self.assertEqual(row[3:5], (blocks[row[0], row[2]], ()))
        fallen = [entry for entry in tale if entry[3] == "fell"]
        self.assertLessEqual(len(fallen), 1)
        if fallen:
            self.assertEqual(fallen[0][1:3], goer[:2])
            self.assertNotIn(goer, [row[:3] for row in after])
        self.check_waiting(goer, before, after)

    def check_waiting(self, goer, before, after):
        """Who waits for nobody any more goes on; else it stays."""
        was = [row for row in before if row[:3] == goer][0]
        if was[3][:1] == (("ended",),):
            still = [row for row in after if row[:3] == goer]
            if was[5]:
                self.assertEqual([row[:5] for row in still], [was[:5]])
                self.assertEqual(len(still[0][5]), len(was[5]))
            elif still and still[0][3][:1] == (("ended",),):
                self.assertTrue(still[0][5])


class Together(unittest.TestCase):
    def test_a_text_a_desk_a_log_and_a_paper_of_each_play(self):
        kinds = set()
        for seed in range(40):
            maker = Maker(seed + 500)
            play = maker.play()
            again = play_in(play_text(play))
            self.assertEqual(again, play)
            stage = Stage(play)
            for _ in range(12):
                maker.happen(stage)
            # What a log has is, word for word, what leads a desk.
            lines = [" ".join(str(part) for part in entry) for entry in stage.log()]
            answers = run("\n".join([play_text(play), "stage", *lines, "ones", f"as {len(stage)}", "log"]))
            ones = "; ".join(f"{name} {number}" for name, number in stage.ones())
            self.assertEqual((answers[-3], answers[-1]), (ones, str(len(lines))))
            self.assertEqual(replay(again, stage.log()), stage)
            happenings = [("flag",), ("turn",), ("touch", "cat", 0)]
            try:
                self.assertIsNone(parted(play, again, happenings, most=12))
                self.assertIs(shows_alike(play, again, happenings, alike_paper(play, again, happenings, most=12)), True)
                kinds.add("paper")
            except TooMany:
                kinds.add("many")
        self.assertEqual(kinds, {"paper", "many"})


if __name__ == "__main__":
    unittest.main()
