"""Trees of questions, looked at in another way: the ways through them, and a store for each way."""

from tests.slowly import held, value_and_reads

SMALL = (("a", (("l", "b"), ("x", (0, 3)))), ("b", (("n", (0, 2)),)))
UP = (("b", (("n", (0, 3)),), (("+", ("get", ("n",), 0), 1),)),)
READ = (("a", (("l", "b"), ("x", (0, 3))), (("to", ("l",)), ("get", ("l", "n"), 0))),)


def end_kind(schema, cls, path):
    for field in path:
        cls = dict(dict(schema)[cls])[field]
    return cls


def ways(tree, before=()):
    """The pairs (questions with the indexes of their answers, result) of all leaves, from the left."""
    if tree[0] == "leaf":
        return [(before, tree[1])]
    found = []
    for k, branch in enumerate(tree[2]):
        found += ways(branch, before + ((tree[1], k),))
    return found


def questions(tree, before=()):
    """The pairs (questions on the way, question) of all questions."""
    if tree[0] == "leaf":
        return []
    found = [(before, tree)]
    for k, branch in enumerate(tree[2]):
        found += questions(branch, before + ((tree[1], k),))
    return found


def store_on(rng, schema, cls, way):
    """A store whose object 0 goes this way, and the path that each object stands for; all else is random."""
    paths = [()] + [path for path, k in way if isinstance(end_kind(schema, cls, path), str) and k == 1]
    classes = [end_kind(schema, cls, path) for path in paths]
    answers = dict(way)
    rows = []
    for path, name in zip(paths, classes):
        values = []
        for field, kind in dict(schema)[name]:
            k = answers.get(path + (field,))
            if isinstance(kind, tuple):
                values.append(rng.randint(*kind) if k is None else kind[0] + k)
            elif k is None:
                values.append(rng.choice([None] + [n for n, other in enumerate(classes) if other == kind]))
            else:
                values.append(paths.index(path + (field,)) if k else None)
        rows.append((len(rows), name, tuple(values)))
    return (schema, len(rows), tuple(rows)), paths


def on_the_way(rng, schema, cls, kind, expression, way):
    """What a way should ask and lead to: the paths that the expression reads there, and its result."""
    plain, paths = store_on(rng, schema, cls, way)
    value, reads = value_and_reads(plain, 0, expression)
    asked = [paths[number] + (field,) for number, field in reads]
    if isinstance(kind, str):
        return asked, None if value is None else paths[value]
    return asked, held(kind, value)


def small_schema(rng, most=2):
    """A schema of which the trees are small."""
    classes = sorted(rng.sample("abc", rng.randint(1, most)))
    forms = []
    for _ in classes:
        names = sorted(rng.sample("fghi", rng.randint(1, 3)))
        kinds = [rng.choice(classes) if rng.random() < 0.5 else (0, rng.randint(0, 2)) for _ in names]
        forms.append(tuple(zip(names, kinds)))
    return tuple(zip(classes, forms))
