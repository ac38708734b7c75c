"""A desk: a Store that is asked and changed by strings."""

from lateforms.deskanswers import answer_text
from lateforms.deskcommands import read_command
from lateforms.stores import Store


class Desk:
    """A desk with a Store of a schema."""

    def __init__(self, schema):
        self._store = Store(schema)
        self._started = 0
        self._finished = 0

    def say(self, text):
        """The answer to any string."""
        self._started = self._started + 1
        try:
            return self.answer_to(read_command(text)) or "-"
        finally:
            self._finished = self._started

    def answer_to(self, command):
        """The answer to a command; it may be empty."""
        if command == ("new",):
            self._store = Store(self._store.first_schema)
            return "ok"
        return answer_text(self._store, command)

    def counts(self):
        """How many strings were started, and how many were finished."""
        return self._started, self._finished
