"""Plays and happenings by chance, of a given seed, for what must hold of all of them."""

import random

from figuredeeds.plays import is_play

FIGURES = ("cat", "dog", "owl")
NAMES = ("n", "m")
LISTS = ("bag",)
NEWS = ("tea", "ale")
KEYS = ("up", "down")


class Maker:
    def __init__(self, seed):
        self.chance = random.Random(seed)
        self.figures = FIGURES[:self.chance.randint(1, 3)]

    def one_of(self, *choices):
        return self.chance.choice(choices)

    def look(self, params=(), deep=2):
        if deep == 0 or self.chance.random() < 0.6:
            plain = [self.chance.randint(-1, 4), ("name", self.one_of(*NAMES, *params)), ("x",), ("number",)]
            return self.one_of(*plain)
        if self.chance.random() < 0.1:
            return self.one_of(("many", "bag"), ("item", "bag", self.look(params, deep - 1)), 1000000)
        word = self.one_of(*["plus", "minus", "by"] * 4, "over", "rest")
        return (word, self.look(params, deep - 1), self.look(params, deep - 1))

    def test(self, params=(), deep=2):
        if deep > 0 and self.chance.random() < 0.3:
            word = self.one_of("not", "both", "any")
            parts = [self.test(params, deep - 1) for _ in range(1 if word == "not" else 2)]
            return (word, *parts)
        if self.chance.random() < 0.3:
            return ("meets", self.one_of(*self.figures))
        return (self.one_of("like", "below"), self.look(params), self.look(params))

    def deed(self, pieces, params, deep):
        look = self.look(params)
        if deep > 1 and self.chance.random() < 0.2:
            return self.deed_with_blocks(look, pieces, params, deep)
        plain = [("move", look), ("turn", look), ("say", look), ("set", self.one_of(*NAMES), look), ("show",),
                 ("hide",), ("add", self.one_of(*NAMES), look), ("place", look, self.look(params))]
        listed = [("put", "bag", look), ("drop", "bag", look), ("write", "bag", look, self.look(params))]
        others = [("wait", look), ("until", self.test(params)), ("tell", self.one_of(*NEWS)),
                  ("await", self.one_of(*NEWS)), ("copy", self.one_of(None, *self.figures))] * 3
        others += [("end",), ("stop", self.one_of("run", "others", "all"))]
        for name, many in pieces:
            others += [("do", name, tuple(self.look(params) for _ in range(many)))] * 4
        return self.one_of(self.one_of(*plain * 3, *listed), self.one_of(*others))

    def deed_with_blocks(self, look, pieces, params, deep):
        block = self.block(pieces, params, deep - 1)
        word = self.one_of("if", "times", "while", "ever")
        if word == "if":
            return ("if", self.test(params), block, self.block(pieces, params, deep - 1))
        if word == "times":
            return ("times", look, block)
        return ("while", self.test(params), block) if word == "while" else ("ever", block)

    def block(self, pieces, params, deep=3):
        return tuple(self.deed(pieces, params, deep) for _ in range(self.chance.randint(0, 6)))

    def figure(self, name):
        shapes = [("hop", ("a", "b")), ("nap", ()), ("run", ("n",))][:self.chance.randint(0, 3)]
        calls = [(piece, len(params)) for piece, params in shapes]
        pieces = tuple((piece, self.one_of("open", "open", "closed"), params, self.block(calls, params))
                       for piece, params in shapes)
        hats = [("flag",), ("key", self.one_of(*KEYS)), ("news", "tea"), ("news", "ale"), ("touch",), ("born",)]
        scripts = tuple((self.one_of(*hats), self.block(calls, ())) for _ in range(self.chance.randint(1, 6)))
        spot = (self.chance.randint(0, 2), self.chance.randint(0, 1), self.chance.randint(0, 3))
        names = self.one_of((), (("n", 1),), (("m", 2), ("n", 3)))
        lists = self.one_of((), (("bag", (1, 2)),))
        return (name, spot, names, lists, pieces, scripts)

    def play(self):
        figures = tuple(self.figure(name) for name in self.figures)
        play = ((3, 2), (("n", 5), ("m", 0)), (("bag", (7,)),), figures)
        assert is_play(play)
        return play

    def happen(self, stage):
        """Something, a turn most often, happens with the stage."""
        word = self.one_of("flag", "key", "touch", "news", *["turn"] * 6)
        if word == "turn":
            stage.turn()
        elif word == "flag":
            stage.flag()
        elif word == "key":
            stage.key(self.one_of(*KEYS))
        elif word == "news":
            stage.news(self.one_of(*NEWS))
        else:
            name, number = self.one_of(*stage.ones())
            stage.touch(name, number=number)
