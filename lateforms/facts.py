"""What is known of conditions at one place of an expression, as they were evaluated on the way there.

Facts are a tuple of pairs (condition, whether it holds). A condition that is decided
by them reads nothing that was not read on the way.
"""


def learned(facts, condition, holds):
    """The facts with what follows if the condition was evaluated, and holds or does not."""
    if condition[0] == "not":
        return learned(facts, condition[1], not holds)
    if condition[0] == "and" and holds:
        return learned(learned(facts, condition[1], True), condition[2], True)
    return (*facts, (condition, holds))


def decided(facts, condition):
    """Whether the condition holds, or None if the facts do not tell."""
    if condition[0] == "not":
        inner = decided(facts, condition[1])
        return None if inner is None else not inner
    for known, holds in facts:
        if known == condition or tells_path(known, holds, condition):
            return holds
    return None


def tells_path(known, holds, condition):
    """Whether a path that is None, or is there, tells the same of another path."""
    if known[0] != "none" or condition[0] != "none":
        return False
    if holds:
        return starts(condition[1], known[1])
    return starts(known[1], condition[1])


def starts(path, beginning):
    """Whether a path is another one, or goes on behind it."""
    return path[:len(beginning)] == beginning
