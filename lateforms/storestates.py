"""What a store is at one moment, and what its steps make of it.

A state is (late store, snapshots, pace); the snapshots ascend by (name, version).
"""

from lateforms.changes import is_change
from lateforms.closing import between, closed_up, lowered
from lateforms.latecells import fresh_late, newest_schema
from lateforms.latesteps import (
    converted, forgotten, late_changed, late_dropped, late_made, late_pinned, late_released, late_written, lives,
    pending_numbers,
)
from lateforms.plainsteps import all_suit
from lateforms.schemas import form_of, place_of
from lateforms.storesteps import is_step
from lateforms.values import suits


def fresh_state(schema):
    """The state without objects."""
    return fresh_late(schema), (), 0


def barring_word(state, step, limits):
    """The word that bars any value as a step, or None; the limits are how many objects and changes there may be."""
    if not is_step(step):
        return "shape"
    word, *things = step
    check = CHECKS.get(word)
    return None if check is None else check(state, limits, *things)


def make_barred(state, limits, cls, values):
    """The word that bars making an object, or None."""
    late = state[0]
    form = form_of(newest_schema(late), cls)
    if form is None:
        return "class"
    if not all_suit(form, values, living_classes(late)):
        return "values"
    return "full" if len(late[2]) >= limits[0] else None


def write_barred(state, limits, number, field, value):
    """The word that bars writing a field, or None."""
    late = state[0]
    if not lives(late, number):
        return "number"
    form = form_of(newest_schema(late), late[2][number][0])
    k = place_of(form, field)
    if k is None:
        return "field"
    return None if suits(form[k][1], value, living_classes(late)) else "value"


def drop_barred(state, limits, number):
    """The word that bars dropping an object, or None."""
    return None if lives(state[0], number) else "number"


def change_barred(state, limits, change):
    """The word that bars a change, any value, or None."""
    if not is_change(newest_schema(state[0]), change):
        return "change"
    return "full" if is_full(state, limits) else None


def keep_barred(state, limits, name):
    """The word that bars a snapshot, or None."""
    if snapshot_version(state[1], name) is not None:
        return "name"
    return "full" if is_full(state, limits) else None


def release_barred(state, limits, name):
    """The word that bars the end of a snapshot, or None."""
    return "name" if snapshot_version(state[1], name) is None else None


def touch_barred(state, limits, numbers):
    """The word that bars touching objects, or None."""
    return None if all([lives(state[0], number) for number in numbers]) else "number"


CHECKS = {
    "make": make_barred,
    "write": write_barred,
    "drop": drop_barred,
    "change": change_barred,
    "keep": keep_barred,
    "release": release_barred,
    "touch": touch_barred,
}


def is_full(state, limits):
    """Whether there are as many changes as there may be."""
    return len(state[0][1]) >= limits[1]


def living_classes(late):
    """The class of each living object, by its number."""
    return {number: row[0] for number, row in enumerate(late[2]) if row[2] is None}


def snapshot_version(snapshots, name):
    """The version of the snapshot with this name, any value, or None if there is none."""
    for known, version in snapshots:
        if known == name:
            return version
    return None


def behind_step(state, step):
    """The state behind a step that is not barred, and its answer."""
    word, *things = step
    action = ACTIONS[word]
    (late, snapshots, pace), answer = action(state, *things)
    due = next_swept(late, pace)
    return (forgotten(converted(late, *due)), snapshots, pace), answer


def next_swept(late, most):
    """The numbers of the pending objects, at most so many, that a sweep converts, in order."""
    ordered = sorted([(late[2][number][3], number) for number in pending_numbers(late)])
    return tuple([number for _, number in ordered[:most]])


def behind_make(state, cls, values):
    """The state behind making an object, and its number."""
    late, snapshots, pace = state
    return (late_made(late, cls, *values), snapshots, pace), len(late[2])


def behind_write(state, number, field, value):
    """The state behind writing a field; no answer."""
    late, snapshots, pace = state
    return (late_written(late, number, field, value), snapshots, pace), None


def behind_drop(state, number):
    """The state behind dropping an object; no answer."""
    late, snapshots, pace = state
    return (late_dropped(late, number), snapshots, pace), None


def behind_change(state, change):
    """The state behind a change, and the version to which it leads."""
    late, snapshots, pace = state
    return (late_changed(late, change), snapshots, pace), len(late[1]) + 1


def behind_keep(state, name):
    """The state with a snapshot, and its version."""
    late, snapshots, pace = state
    version = len(late[1])
    return (late_pinned(late), tuple(sorted([*snapshots, (name, version)])), pace), version


def behind_release(state, name):
    """The state without a snapshot; no answer."""
    late, snapshots, pace = state
    after = late_released(late, snapshot_version(snapshots, name))
    return (after, tuple([row for row in snapshots if row[0] != name]), pace), None


def behind_touch(state, numbers):
    """The state in which objects are converted, and those that were pending."""
    late, snapshots, pace = state
    pending = pending_numbers(late)
    due = tuple([number for number in numbers if number in pending])
    return (converted(late, *due), snapshots, pace), due


def behind_sweep(state, most):
    """The state in which pending objects are converted, at most so many, and their numbers."""
    late, snapshots, pace = state
    due = next_swept(late, most)
    return (converted(late, *due), snapshots, pace), due


def behind_pace(state, most):
    """The state with another pace; no answer."""
    late, snapshots, _ = state
    return (late, snapshots, most), None


def behind_close(state):
    """The state in which all versions that are between are closed up, and how many they were."""
    late, snapshots, pace = state
    many = 0
    waiting = between(late)
    while waiting:
        late = closed_up(late, waiting[0])
        snapshots = tuple([(name, lowered(version, waiting[0])) for name, version in snapshots])
        many = many + 1
        waiting = between(late)
    return (late, snapshots, pace), many


ACTIONS = {
    "make": behind_make,
    "write": behind_write,
    "drop": behind_drop,
    "change": behind_change,
    "keep": behind_keep,
    "release": behind_release,
    "touch": behind_touch,
    "sweep": behind_sweep,
    "pace": behind_pace,
    "close": behind_close,
}
