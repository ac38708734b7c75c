"""Versions between which nobody stands, and closing them up."""

from lateforms.errors import InvalidStep
from lateforms.joining import joined
from lateforms.kinds import is_integer
from lateforms.latecells import schema_at
from lateforms.sums import has_sum


def between(late):
    """The versions that are between, ascending."""
    return tuple([version for version in range(1, len(late[1])) if is_between(late, version)])


def is_between(late, version):
    """Whether a version above 0 and below the newest is between."""
    _, changes, rows, kept, pins = late
    if version in pins or version in [entry[1] for entry in kept]:
        return False
    if version in [row[3] for row in rows] or version in [row[2] for row in rows]:
        return False
    return not has_sum(changes[version - 1]) and not has_sum(changes[version])


def closed_up(late, version):
    """The late store in which a version is closed up; InvalidStep for any value that is not between."""
    if not is_integer(version) or version not in between(late):
        raise InvalidStep(("close", version), "between")
    schema, changes, rows, kept, pins = late
    one = joined(schema_at(late, version - 1), changes[version - 1], changes[version])
    return (
        schema,
        (*changes[:version - 1], one, *changes[version + 1:]),
        tuple([closed_row(row, version) for row in rows]),
        tuple([(number, lowered(moment, version), field, value) for number, moment, field, value in kept]),
        tuple([lowered(pin, version) for pin in pins]),
    )


def closed_row(row, version):
    """A row behind the closing of a version."""
    cls, born, end, current, values = row
    end = None if end is None else lowered(end, version)
    # what was born in the version is born in the one that gets its number
    return cls, lowered(born, version), end, lowered(current, version), values


def lowered(moment, version):
    """The number that a version has behind the closing of another one."""
    return moment - 1 if moment > version else moment
