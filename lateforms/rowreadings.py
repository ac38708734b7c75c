"""Reading rows: steps, schemas and logs."""

from lateforms.changereadings import next_change
from lateforms.errors import InvalidText
from lateforms.kinds import is_form, is_name, is_schema
from lateforms.readings import form_in
from lateforms.storesteps import SLOTS, suits_slot
from lateforms.words import Words, is_integer_word


def read_step(text, *, row=0):
    """The step that a row writes."""
    words = Words(text, row, 0)
    word = words.ahead()
    if word not in SLOTS:
        words.refuse()
    words.advance()
    things = [next_entry(words, slot) for slot in SLOTS[word]]
    words.finish()
    return (word, *things)


def next_entry(words, slot):
    """What comes up behind the word of a step."""
    if slot == "change":
        return next_change(words)
    word = words.ahead()
    if word is None:
        words.refuse()
    entry = entry_in(slot, word)
    if not suits_slot(slot, entry):
        words.refuse()
    words.advance()
    return entry


def entry_in(slot, word):
    """What a word writes where the slot is; what does not suit the slot if it writes nothing of that kind."""
    if slot == "name":
        return word
    if slot == "values" and word == "-":
        return ()
    if slot == "values" or slot == "numbers":
        return values_in(word)
    return value_in(word) if is_value_word(word) else ""


def is_value_word(word):
    """Whether a word is a written value."""
    return word == "none" or is_integer_word(word)


def value_in(word):
    """The value that a word writes."""
    return None if word == "none" else int(word)


def values_in(word):
    """The values that a word writes with commas between, or None if it writes none."""
    parts = word.split(",")
    if not all([is_value_word(part) for part in parts]):
        return None
    return tuple([value_in(part) for part in parts])


def read_schema(text, *, row=0):
    """The schema that a row writes."""
    words = Words(text, row, 0)
    if words.ahead() != "store":
        words.refuse()
    words.advance()
    forms = [next_class(words, "")]
    while words.ahead() is not None:
        forms.append(next_class(words, forms[-1][0]))
    if not is_schema(tuple(forms)):
        words.refuse()
    return tuple(forms)


def next_class(words, before):
    """The class that comes up with its form, behind another class; no name is less than an empty one."""
    cls = words.ahead()
    if not is_name(cls) or not cls > before:
        words.refuse()
    words.advance()
    form = None if words.ahead() is None else form_in(words.ahead())
    if not is_form(form):
        words.refuse()
    words.advance()
    return cls, form


def read_log(rows):
    """The schema and the log that rows write."""
    if len(rows) == 0:
        raise InvalidText(0, 0)
    schema = read_schema(rows[0])
    return schema, tuple([read_step(text, row=k) for k, text in enumerate(rows) if k > 0])
