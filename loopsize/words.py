"""Lines of texts as words, taken from the left."""

from loopsize.errors import BadText
from loopsize.kinds import LETTERS, is_array_name

DIGITS = "0123456789"
DOUBLE_WORDS = ("//", ">=", "<=", "==")
TOP_DIGITS = 9


def word_end(line, at):
    """Where the word ends that begins at a place of a line."""
    for signs in (LETTERS, DIGITS):
        if line[at] in signs:
            end = at
            while end < len(line) and line[end] in signs:
                end += 1
            return end
    return at + 2 if line[at:at + 2] in DOUBLE_WORDS else at + 1


def words_of(line):
    """The words of a line, with the columns, counted from 1, where they begin."""
    told = []
    at = 0
    while at < len(line):
        if line[at] == " ":
            at += 1
        else:
            end = word_end(line, at)
            told.append((line[at:end], at + 1))
            at = end
    return told


class Words:
    """Goes through the words of a line. At the end the word at hand is the empty one, right behind the line."""

    def __init__(self, number, line):
        self.number = number
        self.words = words_of(line) + [("", len(line) + 1)]
        self.at = 0

    def word(self):
        return self.words[self.at][0]

    def refuse(self):
        raise BadText(self.number, self.words[self.at][1])

    def take(self):
        word = self.words[self.at][0]
        self.at += 1
        return word

    def has(self, word):
        """Goes over the word at hand if it is this one; tells whether it was."""
        if self.words[self.at][0] != word:
            return False
        self.at += 1
        return True

    def must_have(self, word):
        if not self.has(word):
            self.refuse()

    def number_word(self):
        word = self.word()
        is_number = word != "" and word[0] in DIGITS
        if not is_number or len(word) > TOP_DIGITS or (word[0] == "0" and len(word) > 1):
            self.refuse()
        return int(self.take())

    def array_word(self):
        if not is_array_name(self.word()):
            self.refuse()
        return self.take()
