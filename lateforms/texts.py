"""The written forms of expressions, kinds and forms."""

from lateforms.grammar import slots_behind


def expression_text(expression):
    """The written form of an expression or a condition."""
    words = []
    waiting = [expression]
    while waiting:
        part = waiting.pop()
        if isinstance(part, tuple):
            words.append(part[0])
            waiting.extend(written_behind(part)[::-1])
        else:
            words.append("-" if part is None else str(part))
    return " ".join(words)


def written_behind(part):
    """What stands behind the word of a part, a path as the one word that it is written as."""
    slots = slots_behind(part[0])
    return [".".join(thing) if slot == "path" else thing for slot, thing in zip(slots, part[1:])]


def kind_text(kind):
    """The written form of a kind."""
    if isinstance(kind, str):
        return kind
    low, high = kind
    return f"{low}..{high}"


def form_text(form):
    """The written form of a form."""
    if len(form) == 0:
        return "-"
    return ",".join([f"{field}:{kind_text(kind)}" for field, kind in form])
