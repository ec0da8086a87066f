"""Schemas, questions and stores that are drawn, as the bare arguments of which tests/oracle.py speaks."""

from nestedwishes.errors import BadQuestion
from nestedwishes.questions import Question
from nestedwishes.schemas import Schema
from tests import oracle


def random_shape(draw, bases):
    shape = draw.choice(bases)
    for _ in range(draw.choice([0, 0, 1, 2])):
        word = draw.choice(["list", "sure"])
        if not (word == "sure" and isinstance(shape, tuple) and shape[0] == "sure"):
            shape = (word, shape)
    return shape


def random_world(draw):
    kinds = list("pqrstu")[:draw.randint(1, 6)]
    faces = list("fgh")[:draw.randint(0, 3)]
    unions = list("vwx")[:draw.randint(0, 3)]
    bases = ["number", "text", *kinds, *kinds, *faces, *unions]
    shapes = {field: random_shape(draw, bases) for field in "abcde"}
    held = {kind: set(draw.sample(faces, draw.randint(0, len(faces)))) for kind in kinds}
    for face in faces:
        held[draw.choice(kinds)].add(face)
    face_fields = {face: {field: shapes[field] for field in draw.sample("abcde", draw.randint(1, 4))} for face in faces}
    world = {"kinds": {}, "faces": face_fields, "unions": {}, "root": draw.choice(kinds)}
    for kind in kinds:
        needed = {field for face in held[kind] for field in face_fields[face]}
        fields = {}
        for field in "abcde":
            if field in needed or draw.random() < 0.5 or (field == "e" and not fields):
                fields[field] = shapes[field] if field in needed else random_shape(draw, bases)
        world["kinds"][kind] = (tuple(sorted(held[kind])), fields)
    for union in unions:
        world["unions"][union] = tuple(draw.sample(kinds, draw.randint(1, min(4, len(kinds)))))
    return world


def random_rows(draw, world, base, parts, depth):
    """Rows for a base whose height may reach the depth."""
    rows = []
    for _ in range(draw.choice([0, 1, 1, 2, 2, 3]) if depth > 0 else 0):
        rows.append(random_statement(draw, world, base, parts, depth))
    return tuple(rows)


def random_statement(draw, world, base, parts, depth):
    bases = [*world["kinds"], *world["faces"], *world["unions"]]
    word = draw.choice(["field", "field", "field", "kind", "on", "on", "part", "if"])
    fields = sorted(oracle.shapes(world, base))
    if word == "field" and fields:
        name = draw.choice(fields)
        below = oracle.target(world, base, name)
        rows = () if below in oracle.LEAVES else random_rows(draw, world, below, parts, depth - 1)
        return ("field", name, draw.choice([name, name, "k", "l"]), rows)
    if word == "on":
        below = draw.choice([base, *bases])
        return ("on", below, random_rows(draw, world, below, parts, depth - 1))
    if word == "part" and parts:
        return ("part", draw.choice(parts))
    if word == "if":
        return ("if", draw.choice("fgh"), draw.random() < 0.5, random_rows(draw, world, base, parts, depth - 1))
    return ("kind", draw.choice(["k", "m", "m"]))


def random_question(draw, world):
    """Rows and parts. Not all of them make a question: they may be too many, or come to themselves."""
    bases = [*world["kinds"], *world["faces"], *world["unions"]]
    names = draw.sample("abcd", draw.randint(0, 4))
    parts = {}
    for index, name in enumerate(names):
        base = draw.choice(bases)
        usable = names if draw.random() < 0.1 else names[:index]
        parts[name] = (base, random_rows(draw, world, base, usable, draw.choice([1, 1, 2, 3])))
    return random_rows(draw, world, world["root"], names, draw.choice([2, 4, 5, 6])), parts


def schema_of(world):
    return Schema(world["kinds"], world["faces"], world["unions"], world["root"])


def random_rights(draw, world, wanted):
    """So many tuples (rows, parts, question) of questions that are right."""
    schema = schema_of(world)
    found = []
    while len(found) < wanted:
        rows, parts = random_question(draw, world)
        try:
            found.append((rows, parts, Question(schema, rows, parts)))
        except BadQuestion:
            pass
    return found


def random_value(draw, world, things, shape, trouble):
    """A value of a shape; one of the troubles stands in its place now and then."""
    if draw.random() < trouble:
        return draw.choice([None, ("fail",)])
    if isinstance(shape, tuple) and shape[0] == "sure":
        return random_value(draw, world, things, shape[1], trouble)
    if isinstance(shape, tuple):
        return [random_value(draw, world, things, shape[1], trouble) for _ in range(draw.choice([0, 1, 1, 2, 2, 3]))]
    if shape == "number":
        return draw.choice([0, 1, -1, 10 ** 30 - 1, 1 - 10 ** 30])
    if shape == "text":
        return draw.choice(["", "fail", "a b~", "twelve signs"])
    names = [name for name in things if things[name] in oracle.members(world, shape)]
    return draw.choice(names) if names else None


def random_things(draw, world):
    """Things and the first one of them."""
    kinds = {name: draw.choice(sorted(world["kinds"])) for name in draw.sample("abcdefghijkm", draw.randint(1, 12))}
    first = draw.choice(sorted(kinds))
    kinds[first] = world["root"]
    trouble = draw.choice([0, 0.05, 0.2])
    things = {}
    for name, kind in kinds.items():
        shapes = world["kinds"][kind][1]
        things[name] = (kind, {field: random_value(draw, world, kinds, shapes[field], trouble) for field in shapes})
    return things, first


def varied_rows(draw, rows):
    """Rows that differ a little from these, or only in their order."""
    if not rows:
        return rows
    at = draw.randrange(len(rows))
    statement = rows[at]
    if statement[0] in ("field", "on", "if") and draw.random() < 0.6:
        return rows[:at] + ((*statement[:-1], varied_rows(draw, statement[-1])),) + rows[at + 1:]
    sort = draw.randrange(6)
    if sort == 0:
        return rows[:at] + rows[at + 1:]
    if sort == 1:
        return rows[at:] + rows[:at]
    if sort == 2:
        return rows + (statement,)
    if sort == 3:
        return rows[:at] + (("if", draw.choice("fgh"), draw.random() < 0.5, (statement,)),) + rows[at + 1:]
    if sort == 4:
        both = tuple(("if", "i", wanted, (statement,)) for wanted in (True, False))
        return rows[:at] + both + rows[at + 1:]
    return rows[:at] + (("on", draw.choice("pqrstu"), (statement,)),) + rows[at + 1:]


def varied(draw, world, rows, parts):
    """A tuple (rows, parts, question) of a question that differs a little from this one."""
    schema = schema_of(world)
    while True:
        names = ["", *parts]
        name = draw.choice(names)
        others = dict(parts)
        new_rows = rows
        if name:
            others[name] = (parts[name][0], varied_rows(draw, parts[name][1]))
        else:
            new_rows = varied_rows(draw, rows)
        try:
            return new_rows, others, Question(schema, new_rows, others)
        except BadQuestion:
            pass


def sure_world(draw):
    """A world of few kinds, with one face and one union, in which most fields are sure and lead to things."""
    kinds = list("pqr")[:draw.randint(1, 3)]
    world = {"kinds": {}, "faces": {"f": {}}, "unions": {"u": tuple(kinds)}, "root": draw.choice(kinds)}
    bases = ["number", *kinds, *kinds, "f", "u"]
    world["faces"]["f"]["a"] = sure_shape(draw, draw.choice(kinds))
    holders = draw.sample(kinds, draw.randint(1, len(kinds)))
    for kind in kinds:
        fields = {field: sure_shape(draw, draw.choice(bases)) for field in "abc"[:draw.randint(1, 3)]}
        if kind in holders:
            fields["a"] = world["faces"]["f"]["a"]
        world["kinds"][kind] = (("f",) if kind in holders else (), fields)
    return world


def sure_shape(draw, base):
    return draw.choice([base, ("sure", base), ("sure", base), ("sure", base), ("list", base), ("sure", ("list", base)),
                        ("list", ("sure", base)), ("sure", ("list", ("sure", base)))])


def leading_rows(draw, world, base, depth, mixed):
    """Rows that ask mostly for fields, one below the other. Only if they are mixed, a key may have several names."""
    rows = []
    fields = sorted(oracle.shapes(world, base))
    for _ in range(draw.choice([1, 2, 2, 3]) if depth > 0 else 0):
        if not fields:
            below = draw.choice(oracle.members(world, base))
            rows.append(("on", below, leading_rows(draw, world, below, depth - 1, mixed)))
        elif draw.random() < 0.1:
            rows.append(("if", draw.choice("xy"), draw.random() < 0.5, leading_rows(draw, world, base, depth - 1, mixed)))
        elif draw.random() < 0.1:
            rows.append(("kind", "a" if draw.random() < mixed else "k"))
        else:
            name = draw.choice(fields)
            below = oracle.target(world, base, name)
            inner = () if below in oracle.LEAVES else leading_rows(draw, world, below, depth - 1, mixed)
            key = "a" if draw.random() < mixed else draw.choice([name, name, name, "d" + name])
            rows.append(("field", name, key, inner))
    return tuple(rows)


def leading_rights(draw, world, wanted, mixed=0):
    """So many tuples (rows, parts, question) of questions with leading_rows."""
    schema = schema_of(world)
    found = []
    while len(found) < wanted:
        rows = leading_rows(draw, world, world["root"], draw.choice([2, 3, 4, 5]), mixed)
        try:
            found.append((rows, {}, Question(schema, rows, {})))
        except BadQuestion:
            pass
    return found


def clean_value(draw, world, things, shape):
    """A value of a shape that is empty only where it need not be sure. There is a thing of each kind."""
    if isinstance(shape, tuple) and shape[0] == "sure":
        value = None
        while value is None:
            value = clean_value(draw, world, things, shape[1])
        return value
    if draw.random() < 0.15:
        return None
    if isinstance(shape, tuple):
        return [clean_value(draw, world, things, shape[1]) for _ in range(draw.choice([0, 1, 1, 2]))]
    if shape in oracle.LEAVES:
        return draw.choice({"number": [0, 1, 2], "text": ["", "a", "b"]}[shape])
    return draw.choice([name for name in sorted(things) if things[name] in oracle.members(world, shape)])


def clean_things(draw, world):
    """Things in a clean store with at least one of each kind, and the first one of them."""
    kinds = dict(zip("abcdef", world["kinds"]))
    for name in "ghijkm"[:draw.randint(0, 6)]:
        kinds[name] = draw.choice(sorted(world["kinds"]))
    first = draw.choice([name for name in kinds if kinds[name] == world["root"]])
    things = {}
    for name, kind in kinds.items():
        shapes = world["kinds"][kind][1]
        things[name] = (kind, {field: clean_value(draw, world, kinds, shapes[field]) for field in shapes})
    return things, first


def marked_rows(draw, world, base, rows, missing):
    """Rows that ask for the kind below each field whose target has several members, but now and then not."""
    marked = []
    for statement in rows:
        if statement[0] == "field":
            below = oracle.target(world, base, statement[1])
            if below in oracle.LEAVES:
                marked.append(statement)
                continue
            inner = marked_rows(draw, world, below, statement[3], missing)
            if len(oracle.members(world, below)) > 1 and draw.random() >= missing:
                inner = (("kind", "z"),) + inner[:5]
            marked.append((*statement[:3], inner))
        elif statement[0] in ("on", "if"):
            below = statement[1] if statement[0] == "on" else base
            marked.append((*statement[:-1], marked_rows(draw, world, below, statement[-1], missing)))
        else:
            marked.append(statement)
    return tuple(marked)


def marked(draw, world, rows, parts, missing=0):
    """A tuple (rows, parts, question) of a question with marked_rows, or None if it would be too large."""
    new_rows = marked_rows(draw, world, world["root"], rows, missing)
    new_parts = {name: (base, marked_rows(draw, world, base, inner, missing)) for name, (base, inner) in parts.items()}
    try:
        return new_rows, new_parts, Question(schema_of(world), new_rows, new_parts)
    except BadQuestion:
        return None


def steady_world(draw):
    """A world of few kinds in which most fields always lead to one thing."""
    kinds = list("pqr")[:draw.randint(1, 3)]
    bases = [*kinds, "f", "u"]
    shape = ("sure", draw.choice(bases))
    world = {"kinds": {}, "faces": {"f": {"a": shape}}, "unions": {"u": tuple(kinds)}, "root": draw.choice(kinds)}
    for kind in kinds:
        fields = {"a": shape, "b": ("sure", draw.choice(bases)), "c": draw.choice(["number", "u", ("list", "f"), ("sure", "f")])}
        world["kinds"][kind] = (("f",), fields)
    return world


def listed_world(draw):
    """A world of few kinds that lead to each other, through lists of several depths."""
    kinds = list("pqrs")[:draw.randint(2, 4)]
    shapes = {"a": listed_shape(draw, "f"), "b": listed_shape(draw, draw.choice(["u", "u", *kinds]))}
    world = {"kinds": {}, "faces": {"f": shapes}, "unions": {"u": tuple(kinds)}, "root": draw.choice(kinds)}
    for kind in kinds:
        world["kinds"][kind] = (("f",), {**shapes, "c": listed_shape(draw, draw.choice(["number", "text", "f", "u"]))})
    return world


def listed_shape(draw, base):
    return draw.choice([base, base, ("list", base), ("sure", ("list", base)), ("list", ("sure", ("list", base)))])


def crowded_rows(draw, world, base, depth):
    """Rows that ask unlike things of the members of a base: of some for many kind names, of others for fields."""
    rows = []
    for member in oracle.members(world, base):
        inner = [("kind", "k" + key) for key in "abcd"[:draw.choice([0, 0, 1, 2, 3, 4])]]
        for name in draw.sample(sorted(oracle.shapes(world, member)), draw.choice([0, 1, 1, 2])):
            below = oracle.target(world, member, name)
            if below in oracle.LEAVES:
                inner.append(("field", name, name, ()))
            elif depth > 2:
                more = crowded_rows(draw, world, below, depth - 2)
                inner.extend(("field", name, name + key, more) for key in draw.choice(["", "x", "xy"]))
            else:
                inner.append(("field", name, name, (("kind", "k"),) * draw.randint(0, 1)))
        rows.append(("on", member, tuple(inner[:6])))
    return tuple(rows)


def crowded_rights(draw, world, wanted):
    """So many tuples (rows, parts, question) of questions with crowded_rows."""
    found = []
    while len(found) < wanted:
        rows = crowded_rows(draw, world, world["root"], draw.choice([3, 4, 4]))
        try:
            found.append((rows, {}, Question(schema_of(world), rows, {})))
        except BadQuestion:
            pass
    return found
