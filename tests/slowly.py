"""Expressions evaluated in another, slower way than the package does it."""


def value_and_reads(plain, own, expression):
    """The value of an expression or a condition at an object, and its reads in order, each once."""
    schema, _, objects = plain
    forms = {cls: [field for field, _ in form] for cls, form in schema}
    rows = {number: (cls, values) for number, cls, values in objects}
    reads = []

    def look(number, field):
        if (number, field) not in reads:
            reads.append((number, field))
        cls, values = rows[number]
        return values[forms[cls].index(field)]

    def walk(path, place):
        if place is None or not path:
            return place
        return walk(path[1:], look(place, path[0]))

    def total(cls, link, field):
        found = 0
        for number in sorted(rows):
            if rows[number][0] == cls and look(number, link) == own:
                found += look(number, field)
        return found

    def value(part):
        match part:
            case int() | None:
                return part
            case ("get", path, default):
                end = walk(path, own)
                return default if end is None else end
            case ("self",):
                return own
            case ("to", path):
                return walk(path, own)
            case ("none", path):
                return walk(path, own) is None
            case ("sum", cls, link, field):
                return total(cls, link, field)
            case ("if", condition, first, second):
                return value(first) if value(condition) else value(second)
            case ("not", condition):
                return not value(condition)
            case ("and", first, second):
                return value(first) and value(second)
        word, first, second = part
        one, two = value(first), value(second)
        return {
            "+": lambda: one + two, "-": lambda: one - two, "*": lambda: one * two,
            "least": lambda: min(one, two), "most": lambda: max(one, two),
            "<": lambda: one < two, "=": lambda: one == two,
        }[word]()

    result = value(expression)
    return result, tuple(reads)


def converted(plain, change):
    """The plain store after a change of its schema."""
    schema, limit, objects = plain
    rows = {cls: (form, expressions) for cls, form, expressions in change}
    found = []
    for number, cls, values in objects:
        if cls in rows:
            form, expressions = rows[cls]
            values = tuple(
                held(kind, value_and_reads(plain, number, expression)[0])
                for (_, kind), expression in zip(form, expressions)
            )
        found.append((number, cls, values))
    forms = dict(schema) | {cls: form for cls, form, _ in change}
    return (tuple(sorted(forms.items())), limit, tuple(found))


def held(kind, value):
    return sorted((kind[0], value, kind[1]))[1] if isinstance(kind, tuple) else value
