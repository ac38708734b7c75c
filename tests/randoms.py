"""Random schemas, stores, expressions and changes, each made by a seeded random.Random."""

CLASSES = ("a", "b", "c")
FIELDS = ("f", "g", "h", "to", "if")


def random_schema(rng, most=3, fields=4):
    classes = sorted(rng.sample(CLASSES, rng.randint(1, most)))
    return tuple((cls, random_form(rng, classes, fields)) for cls in classes)


def random_form(rng, classes, fields=4):
    names = sorted(rng.sample(FIELDS, rng.randint(0, fields)))
    return tuple((name, random_kind(rng, classes)) for name in names)


def random_kind(rng, classes):
    if rng.random() < 0.55:
        return rng.choice(classes)
    low = rng.randint(-5, 5)
    return (low, low + rng.randint(0, 8))


def random_plain(rng, schema, most=6):
    limit = rng.randint(0, most)
    numbers = [n for n in range(limit) if rng.random() < 0.9]
    classes = {n: rng.choice(schema)[0] for n in numbers}
    forms = dict(schema)
    objects = []
    for n in numbers:
        values = tuple(random_value(rng, kind, classes) for _, kind in forms[classes[n]])
        objects.append((n, classes[n], values))
    return (schema, limit, tuple(objects))


def random_value(rng, kind, classes):
    if isinstance(kind, tuple):
        return rng.randint(*kind)
    there = [n for n in classes if classes[n] == kind]
    return rng.choice(there) if there and rng.random() < 0.8 else None


def all_paths(schema, cls, longest=3):
    """The pairs (path, kind at its end) of all paths from the class."""
    forms = dict(schema)
    found = []
    latest = [((), cls)]
    for _ in range(longest):
        latest = [
            (path + (field,), kind)
            for path, end in latest if isinstance(end, str)
            for field, kind in forms[end]
        ]
        found += latest
    return found


def all_sums(schema, cls):
    return [
        ("sum", name, link, field)
        for name, form in schema
        for link, kind in form if kind == cls
        for field, other in form if isinstance(other, tuple)
    ]


def random_expression(rng, schema, cls, kind, size=15, sums=True):
    """An expression of at most so many parts that fits the kind, a name, a range or "condition"."""
    if isinstance(kind, tuple):
        return random_number(rng, schema, cls, size, sums)
    if kind == "condition":
        return random_condition(rng, schema, cls, max(size, 1), sums)
    return random_link(rng, schema, cls, kind, size, sums)


def random_number(rng, schema, cls, size, sums):
    if size >= 4 and rng.random() < 0.35:
        first, second, third = shares(rng, size - 1, 3)
        return ("if", random_condition(rng, schema, cls, first, sums),
                random_number(rng, schema, cls, second, sums), random_number(rng, schema, cls, third, sums))
    if size >= 3 and rng.random() < 0.6:
        first, second = shares(rng, size - 1, 2)
        word = rng.choice(("+", "-", "*", "least", "most"))
        return (word, random_number(rng, schema, cls, first, sums), random_number(rng, schema, cls, second, sums))
    paths = [path for path, kind in all_paths(schema, cls) if isinstance(kind, tuple)]
    if sums and all_sums(schema, cls) and rng.random() < 0.3:
        return rng.choice(all_sums(schema, cls))
    if paths and rng.random() < 0.85:
        return ("get", rng.choice(paths), rng.randint(-3, 3))
    return rng.randint(-4, 4)


def random_condition(rng, schema, cls, size, sums):
    if size >= 3 and rng.random() < 0.3:
        first, second = shares(rng, size - 1, 2)
        return ("and", random_condition(rng, schema, cls, first, sums),
                random_condition(rng, schema, cls, second, sums))
    if size >= 2 and rng.random() < 0.25:
        return ("not", random_condition(rng, schema, cls, size - 1, sums))
    paths = [path for path, kind in all_paths(schema, cls) if isinstance(kind, str)]
    if paths and (size < 3 or rng.random() < 0.6):
        return ("none", rng.choice(paths))
    first, second = shares(rng, max(size - 1, 2), 2)
    return (rng.choice("<="), random_number(rng, schema, cls, first, sums),
            random_number(rng, schema, cls, second, sums))


def random_link(rng, schema, cls, kind, size, sums):
    if size >= 4 and rng.random() < 0.5:
        first, second, third = shares(rng, size - 1, 3)
        return ("if", random_condition(rng, schema, cls, first, sums),
                random_link(rng, schema, cls, kind, second, sums), random_link(rng, schema, cls, kind, third, sums))
    paths = [path for path, end in all_paths(schema, cls) if end == kind]
    choices = [None] + [("to", path) for path in rng.sample(paths, min(4, len(paths)))]
    if kind == cls:
        choices.append(("self",))
    return rng.choice(choices)


def shares(rng, size, many):
    """The size, parted into so many shares of at least 1."""
    cuts = sorted(rng.sample(range(1, size), many - 1))
    return [high - low for low, high in zip([0] + cuts, cuts + [size])]


def random_change(rng, schema, size=9, sums=True):
    """A change of the schema."""
    new = [cls for cls in CLASSES if cls not in dict(schema) and rng.random() < 0.5]
    classes = sorted([cls for cls, _ in schema] + new)
    rows = []
    for cls in classes:
        form = random_form(rng, classes)
        if cls in new:
            rows.append((cls, form, None))
        elif rng.random() < 0.75:
            rows.append((cls, form, tuple(
                None if kind in new and rng.random() < 0.5
                else random_expression(rng, schema, cls, kind, size, sums)
                for _, kind in form
            )))
    return tuple(rows)


def twisted(rng, part):
    """An expression that is often, not always, the same as the given one."""
    if not isinstance(part, tuple) or part[0] in ("get", "to", "none", "self") or rng.random() < 0.2:
        return part
    word, *inner = part
    inner = [twisted(rng, thing) for thing in inner]
    if word in ("+", "*", "least", "most", "=") and rng.random() < 0.6:
        inner = inner[::-1]
    if word == "if" and rng.random() < 0.6:
        inner = [("not", inner[0]), inner[2], inner[1]]
    if word == "-" and rng.random() < 0.5:
        return ("+", inner[0], ("*", -1, inner[1]))
    if word == "<" and rng.random() < 0.5:
        return ("not", ("<", inner[1], ("+", inner[0], rng.choice((0, 1, 1)))))
    return (word, *inner)
