"""Lines of a text, whose words are taken one by one."""

from figuredeeds.errors import BadLine
from figuredeeds.looks import is_name

FIGURES = "0123456789"
LONGEST_COUNT = 9


def is_plain(word):
    """Whether it is a number from 0 on in plain figures, with no nought ahead but 0 itself."""
    if word == "" or not all([sign in FIGURES for sign in word]):
        return False
    return word == "0" or word[0] != "0"


def is_written(word):
    """Whether it is any number as a text has it."""
    if word[:1] == "-":
        # A minus stands ahead of those below 0 alone.
        return word != "-0" and is_plain(word[1:])
    return is_plain(word)


class Line:
    """A line with its number in its text, by which it's refused where a word isn't what it must be."""

    def __init__(self, number, text):
        self.number = number
        self.words = text.split(" ")
        self.at = 0

    def refuse_unless(self, right):
        if not right:
            raise BadLine(self.number)

    def is_over(self):
        return self.at >= len(self.words)

    def next_word(self):
        self.refuse_unless(not self.is_over())
        self.at += 1
        return self.words[self.at - 1]

    def next_name(self):
        word = self.next_word()
        self.refuse_unless(is_name(word))
        return word

    def next_number(self):
        word = self.next_word()
        self.refuse_unless(is_written(word))
        return int(word)

    def next_count(self):
        """As next_number, but none below 0, and none that is longer than a count may be."""
        word = self.next_word()
        self.refuse_unless(is_plain(word) and len(word) <= LONGEST_COUNT)
        return int(word)

    def next_of(self, choices):
        """The next word, which is one of these."""
        word = self.next_word()
        self.refuse_unless(word in choices)
        return word
