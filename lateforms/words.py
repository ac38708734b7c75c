"""Going through the words of a text, and what a single word can stand for."""

from lateforms.errors import InvalidText
from lateforms.kinds import is_name, is_range

DIGITS = "0123456789"
MOST_DIGITS = 60


class Words:
    """The words of a text, and the one that comes up; row and field say where the text stands."""

    def __init__(self, text, row, field):
        self._words = text.split(" ")
        self._row = row
        self._field = field
        self._done = 0

    def ahead(self):
        """The word that comes up, or None behind the last one."""
        return self._words[self._done] if self._done < len(self._words) else None

    def advance(self):
        """Go on to the next word."""
        self._done = self._done + 1

    def finish(self):
        """Refuse a word that comes up behind what is complete."""
        if self.ahead() is not None:
            self.refuse()

    def refuse(self):
        """Raise the error that the word that comes up cannot stand there, or is missing."""
        raise InvalidText(self._row, self._field + self._done)


def is_integer_word(word):
    """Whether a word is a written integer of at most sixty digits."""
    digits = word[1:] if word.startswith("-") else word
    if not 1 <= len(digits) <= MOST_DIGITS or not all([sign in DIGITS for sign in digits]):
        return False
    return word == "0" or digits[0] != "0"


def is_path_word(word):
    """Whether a word is a written path."""
    return all([is_name(field) for field in word.split(".")])


def kind_in(word):
    """The kind that is written so, or None."""
    if is_name(word):
        return word
    low, _, high = word.partition("..")
    if not is_integer_word(low) or not is_integer_word(high):
        return None
    kind = (int(low), int(high))
    return kind if is_range(kind) else None
