"""Reading written expressions, kinds and forms."""

from lateforms.errors import InvalidText
from lateforms.grammar import DUES, slots_of
from lateforms.kinds import is_form, is_name
from lateforms.words import Words, is_integer_word, is_path_word, kind_in

MOST_OPEN = 30


def read_expression(text, due, *, row=0, field=0):
    """The expression or condition that a text writes where a number, a link or a condition is due."""
    words = Words(text, row, field)
    expression = next_part(words, due, 0)
    words.finish()
    return expression


def next_part(words, due, depth):
    """The part that comes up, depth operations being open."""
    word = words.ahead()
    if word is None:
        words.refuse()
    if due == "number" and is_integer_word(word):
        words.advance()
        return int(word)
    if due == "link" and word == "-":
        words.advance()
        return None
    slots = slots_of(due, word)
    if slots is None or depth == MOST_OPEN and opens(slots):
        words.refuse()
    words.advance()
    things = [next_thing(words, slot, depth + 1) for slot in slots]
    return (word, *things)


def opens(slots):
    """Whether a word is that of an operation: parts stand behind it."""
    return any([slot in DUES for slot in slots])


def next_thing(words, slot, depth):
    """What comes up behind a word, depth operations being open: a part, a path, an integer or a name."""
    if slot in DUES:
        return next_part(words, slot, depth)
    word = words.ahead()
    if word is None or not can_stand(slot, word):
        words.refuse()
    words.advance()
    if slot == "path":
        return tuple(word.split("."))
    return int(word) if slot == "integer" else word


def can_stand(slot, word):
    """Whether the word is a path, an integer or a name, as the slot says."""
    if slot == "path":
        return is_path_word(word)
    return is_integer_word(word) if slot == "integer" else is_name(word)


def read_kind(text, *, row=0, field=0):
    """The kind that a text writes."""
    kind = kind_in(text)
    if kind is None:
        raise InvalidText(row, field)
    return kind


def read_form(text, *, row=0, field=0):
    """The form that a text writes."""
    form = form_in(text)
    if not is_form(form):
        raise InvalidText(row, field)
    return form


def form_in(text):
    """The form that a text writes; if it writes none, something that is no form."""
    if text == "-":
        return ()
    rows = [row.partition(":") for row in text.split(",")]
    return tuple([(field, kind_in(kind)) for field, _, kind in rows])
