"""Schemas, questions and stores that are drawn, as the bare arguments of which tests/oracle.py speaks."""

from nestedwishes.errors import BadQuestion
from nestedwishes.questions import Question
from nestedwishes.schemas import Schema
from tests import oracle


def random_shape(draw, bases):
    shape = draw.choice(bases)
    for _ in range(draw.choice([0, 0, 1, 2])):
        word = draw.choice(["list", "sure"])
        if not (word == "sure" and isinstance(shape, tuple) and shape[0] == "sure"):
            shape = (word, shape)
    return shape


def random_world(draw):
    kinds = list("pqrstu")[:draw.randint(1, 6)]
    faces = list("fgh")[:draw.randint(0, 3)]
    unions = list("vwx")[:draw.randint(0, 3)]
    bases = ["number", "text", *kinds, *kinds, *faces, *unions]
    shapes = {field: random_shape(draw, bases) for field in "abcde"}
    held = {kind: set(draw.sample(faces, draw.randint(0, len(faces)))) for kind in kinds}
    for face in faces:
        held[draw.choice(kinds)].add(face)
    face_fields = {face: {field: shapes[field] for field in draw.sample("abcde", draw.randint(1, 4))} for face in faces}
    world = {"kinds": {}, "faces": face_fields, "unions": {}, "root": draw.choice(kinds)}
    for kind in kinds:
        needed = {field for face in held[kind] for field in face_fields[face]}
        fields = {}
        for field in "abcde":
            if field in needed or draw.random() < 0.5 or (field == "e" and not fields):
                fields[field] = shapes[field] if field in needed else random_shape(draw, bases)
        world["kinds"][kind] = (tuple(sorted(held[kind])), fields)
    for union in unions:
        world["unions"][union] = tuple(draw.sample(kinds, draw.randint(1, min(4, len(kinds)))))
    return world


def random_rows(draw, world, base, parts, depth):
    """Rows for a base whose height may reach the depth."""
    rows = []
    for _ in range(draw.choice([0, 1, 1, 2, 2, 3]) if depth > 0 else 0):
        rows.append(random_statement(draw, world, base, parts, depth))
    return tuple(rows)


def random_statement(draw, world, base, parts, depth):
    bases = [*world["kinds"], *world["faces"], *world["unions"]]
    word = draw.choice(["field", "field", "field", "kind", "on", "on", "part", "if"])
    fields = sorted(oracle.shapes(world, base))
    if word == "field" and fields:
        name = draw.choice(fields)
        below = oracle.target(world, base, name)
        rows = () if below in oracle.LEAVES else random_rows(draw, world, below, parts, depth - 1)
        return ("field", name, draw.choice([name, name, "k", "l"]), rows)
    if word == "on":
        below = draw.choice([base, *bases])
        return ("on", below, random_rows(draw, world, below, parts, depth - 1))
    if word == "part" and parts:
        return ("part", draw.choice(parts))
    if word == "if":
        return ("if", draw.choice("fgh"), draw.random() < 0.5, random_rows(draw, world, base, parts, depth - 1))
    return ("kind", draw.choice(["k", "m", "m"]))


def random_question(draw, world):
    """Rows and parts. Not all of them make a question: they may be too many, or come to themselves."""
    bases = [*world["kinds"], *world["faces"], *world["unions"]]
    names = draw.sample("abcd", draw.randint(0, 4))
    parts = {}
    for index, name in enumerate(names):
        base = draw.choice(bases)
        usable = names if draw.random() < 0.1 else names[:index]
        parts[name] = (base, random_rows(draw, world, base, usable, draw.choice([1, 1, 2, 3])))
    return random_rows(draw, world, world["root"], names, draw.choice([2, 4, 5, 6])), parts


def schema_of(world):
    return Schema(world["kinds"], world["faces"], world["unions"], world["root"])


def random_rights(draw, world, wanted):
    """So many tuples (rows, parts, question) of questions that are right."""
    schema = schema_of(world)
    found = []
    while len(found) < wanted:
        rows, parts = random_question(draw, world)
        try:
            found.append((rows, parts, Question(schema, rows, parts)))
        except BadQuestion:
            pass
    return found


def random_value(draw, world, things, shape, trouble):
    """A value of a shape; one of the troubles stands in its place now and then."""
    if draw.random() < trouble:
        return draw.choice([None, ("fail",)])
    if isinstance(shape, tuple) and shape[0] == "sure":
        return random_value(draw, world, things, shape[1], trouble)
    if isinstance(shape, tuple):
        return [random_value(draw, world, things, shape[1], trouble) for _ in range(draw.choice([0, 1, 1, 2, 2, 3]))]
    if shape == "number":
        return draw.choice([0, 1, -1, 10 ** 30 - 1, 1 - 10 ** 30])
    if shape == "text":
        return draw.choice(["", "fail", "a b~", "twelve signs"])
    names = [name for name in things if things[name] in oracle.members(world, shape)]
    return draw.choice(names) if names else None


def random_things(draw, world):
    """Things and the first one of them."""
    kinds = {name: draw.choice(sorted(world["kinds"])) for name in draw.sample("abcdefghijkm", draw.randint(1, 12))}
    first = draw.choice(sorted(kinds))
    kinds[first] = world["root"]
    trouble = draw.choice([0, 0.05, 0.2])
    things = {}
    for name, kind in kinds.items():
        shapes = world["kinds"][kind][1]
        things[name] = (kind, {field: random_value(draw, world, kinds, shapes[field], trouble) for field in shapes})
    return things, first


def varied_rows(draw, rows):
    """Rows that differ a little from these, or only in their order."""
    if not rows:
        return rows
    at = draw.randrange(len(rows))
    statement = rows[at]
    if statement[0] in ("field", "on", "if") and draw.random() < 0.6:
        return rows[:at] + ((*statement[:-1], varied_rows(draw, statement[-1])),) + rows[at + 1:]
    sort = draw.randrange(6)
    if sort == 0:
        return rows[:at] + rows[at + 1:]
    if sort == 1:
        return rows[at:] + rows[:at]
    if sort == 2:
        return rows + (statement,)
    if sort == 3:
        return rows[:at] + (("if", draw.choice("fgh"), draw.random() < 0.5, (statement,)),) + rows[at + 1:]
    if sort == 4:
        both = tuple(("if", "i", wanted, (statement,)) for wanted in (True, False))
        return rows[:at] + both + rows[at + 1:]
    return rows[:at] + (("on", draw.choice("pqrstu"), (statement,)),) + rows[at + 1:]


def varied(draw, world, rows, parts):
    """A tuple (rows, parts, question) of a question that differs a little from this one."""
    schema = schema_of(world)
    while True:
        names = ["", *parts]
        name = draw.choice(names)
        others = dict(parts)
        new_rows = rows
        if name:
            others[name] = (parts[name][0], varied_rows(draw, parts[name][1]))
        else:
            new_rows = varied_rows(draw, rows)
        try:
            return new_rows, others, Question(schema, new_rows, others)
        except BadQuestion:
            pass


def sure_world(draw):
    """A world of few kinds, with one face and one union, in which most fields are sure and lead to things."""
    kinds = list("pqr")[:draw.randint(1, 3)]
    world = {"kinds": {}, "faces": {"f": {}}, "unions": {"u": tuple(kinds)}, "root": draw.choice(kinds)}
    bases = ["number", *kinds, *kinds, "f", "u"]
    world["faces"]["f"]["a"] = sure_shape(draw, draw.choice(kinds))
    holders = draw.sample(kinds, draw.randint(1, len(kinds)))
    for kind in kinds:
        fields = {field: sure_shape(draw, draw.choice(bases)) for field in "abc"[:draw.randint(1, 3)]}
        if kind in holders:
            fields["a"] = world["faces"]["f"]["a"]
        world["kinds"][kind] = (("f",) if kind in holders else (), fields)
    return world


def sure_shape(draw, base):
    return draw.choice([base, ("sure", base), ("sure", base), ("sure", base), ("list", base), ("sure", ("list", base)),
                        ("list", ("sure", base)), ("sure", ("list", ("sure", base)))])


def leading_rows(draw, world, base, depth, mixed):
    """Rows that ask mostly for fields, one below the other. Only if they are mixed, a key may have several names."""
    rows = []
    fields = sorted(oracle.shapes(world, base))
    for _ in range(draw.choice([1, 2, 2, 3]) if depth > 0 else 0):
        if not fields:
            below = draw.choice(oracle.members(world, base))
            rows.append(("on", below, leading_rows(draw, world, below, depth - 1, mixed)))
        elif draw.random() < 0.1:
            rows.append(("if", draw.choice("xy"), draw.random() < 0.5, leading_rows(draw, world, base, depth - 1, mixed)))
        elif draw.random() < 0.1:
            rows.append(("kind", "a" if draw.random() < mixed else "k"))
        else:
            name = draw.choice(fields)
            below = oracle.target(world, base, name)
            inner = () if below in oracle.LEAVES else leading_rows(draw, world, below, depth - 1, mixed)
            key = "a" if draw.random() < mixed else draw.choice([name, name, name, "d" + name])
            rows.append(("field", name, key, inner))
    return tuple(rows)


def leading_rights(draw, world, wanted, mixed=0):
    """So many tuples (rows, parts, question) of questions with leading_rows."""
    schema = schema_of(world)
    found = []
    while len(found) < wanted:
        rows = leading_rows(draw, world, world["root"], draw.choice([2, 3, 4, 5]), mixed)
        try:
            found.append((rows, {}, Question(schema, rows, {})))
        except BadQuestion:
            pass
    return found
