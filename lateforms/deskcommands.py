"""The commands of a desk."""

from lateforms.errors import InvalidCommand, InvalidText
from lateforms.rowreadings import next_entry, read_step
from lateforms.words import Words

QUERIES = {
    "value": ("number", "name"),
    "was": ("name", "number", "name"),
    "object": ("number",),
    "living": (),
    "pending": (),
    "version": (),
    "pace": (),
    "room": (),
    "snapshots": (),
    "schema": (),
    "undo": (),
    "count": (),
    "log": (),
    "table": (),
    "new": (),
}


def read_command(text):
    """The command that a string is, as a tuple of its word and what stands behind it; "do" is the word of a step."""
    try:
        return command_in(text)
    except InvalidText:
        raise InvalidCommand(text) from None


def command_in(text):
    """The command that a string is; InvalidText if it is none."""
    word, _, rest = text.partition(" ")
    if word == "bars":
        return ("bars", read_step(rest))
    if word == "try":
        return ("try", *[read_step(row) for row in rest.split(" / ")])
    # pace alone asks, and with a number behind it is a step
    if word in QUERIES and (word != "pace" or text == "pace"):
        return read_query(text)
    return ("do", read_step(text))


def read_query(text):
    """What a string asks that begins with the word of a query."""
    words = Words(text, 0, 0)
    word = words.ahead()
    words.advance()
    things = [next_entry(words, slot) for slot in QUERIES[word]]
    words.finish()
    return (word, *things)
