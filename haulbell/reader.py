"""The reader: goes through the words of a text, and refuses the first that can't stand where it stands."""

from haulbell.book import is_name
from haulbell.boxes import fits, is_box
from haulbell.errors import NoText
from haulbell.store import MOST_CELLS

FIGURES = "0123456789"
MOST_FIGURES = 10
LEAVE_OF = {"o": "open", "l": "look", "s": "shut"}


def is_written(word):
    figures = word[1:] if word.startswith("-") else word
    if not 1 <= len(figures) <= MOST_FIGURES:
        return False
    if not all([sign in FIGURES for sign in figures]):
        return False
    return word == "0" or not figures.startswith("0")


def number_of(word):
    return int(word) if word is not None and is_written(word) else None


def are_letters(word):
    if word is None or not 1 <= len(word) <= MOST_CELLS:
        return False
    return all([letter in LEAVE_OF for letter in word])


class Reader:
    def __init__(self, text):
        if not isinstance(text, str):
            raise NoText(-1)
        self.queue = text.split(" ")
        self.at = 0

    # None behind the last word: that can't stand anywhere, so a text that ends
    # too soon is refused with the number of all its words.
    def ahead(self):
        return self.queue[self.at] if self.at < len(self.queue) else None

    def take(self, stands):
        if not stands:
            raise NoText(self.at)
        word = self.queue[self.at]
        self.at += 1
        return word

    def skips(self, word):
        if self.ahead() != word:
            return False
        self.at += 1
        return True

    def take_word(self, word):
        return self.take(self.ahead() == word)

    def take_any(self):
        return self.take(self.ahead() is not None and self.ahead() != "")

    def take_name(self):
        return self.take(is_name(self.ahead()))

    def take_box(self):
        return self.take(is_box(self.ahead()))

    def take_number(self, low, high):
        number = number_of(self.ahead())
        self.take(number is not None and low <= number <= high)
        return number

    def take_any_number(self):
        number = number_of(self.ahead())
        self.take(number is not None)
        return number

    def take_fitting(self, box):
        number = number_of(self.ahead())
        self.take(fits(box, number))
        return number

    def take_leaves(self):
        return [LEAVE_OF[letter] for letter in self.take(are_letters(self.ahead()))]

    def ended(self):
        return self.at == len(self.queue)

    def finish(self):
        if not self.ended():
            raise NoText(self.at)
