"""The second reading of tests/oracle.py goes on: stores, answers, parted questions, clashes and risings.

A store is a dict from things to tuples (kind, fields), beside the name of the first thing.
"""

import itertools

from tests import oracle
from tests.oracle import LEAVES, entries, members, shapes, target, truths

FAIL = ("fail",)
SIGNS = [chr(code) for code in range(32, 127) if chr(code) != "%"]


def is_right(world, things, shape, value):
    """Whether a value is one of the shape; what things[..] holds is only asked for its kind."""
    if value is None or (type(value) is tuple and value == FAIL):
        return True
    if isinstance(shape, tuple) and shape[0] == "sure":
        return is_right(world, things, shape[1], value)
    if isinstance(shape, tuple):
        return type(value) is list and len(value) <= 6 and all(is_right(world, things, shape[1], item) for item in value)
    if shape == "number":
        return type(value) is int and -10 ** 30 < value < 10 ** 30
    if shape == "text":
        return type(value) is str and len(value) <= 12 and all(sign in SIGNS for sign in value)
    return type(value) is str and value in things and things[value][0] in members(world, shape)


def wrong_pair(world, things, first):
    """The thing and the field of the first reason for which a store is refused, or None."""
    if type(things) is not dict or not 1 <= len(things) <= 12 or not all(map(oracle.is_name, things)):
        return "", ""
    for name in sorted(things):
        thing = things[name]
        if type(thing) is not tuple or len(thing) != 2 or type(thing[0]) is not str or thing[0] not in world["kinds"]:
            return name, ""
        if type(thing[1]) is not dict or set(thing[1]) != set(world["kinds"][thing[0]][1]):
            return name, ""
    for name, field in sorted((name, field) for name in things for field in things[name][1]):
        if not is_right(world, things, world["kinds"][things[name][0]][1][field], things[name][1][field]):
            return name, field
    if type(first) is not str or first not in things or things[first][0] != world["root"]:
        return "", ""
    return None


class Risen(Exception):
    pass


def visits(world, parts, rows, things, thing, truth, way=()):
    """All tuples (thing, names by key, way) of the things that an answer comes to; nothing is asked below clashes."""
    kind, fields = things[thing]
    asked = {}
    for key, name, inner in entries(world, parts, rows, kind, truth):
        names, together = asked.setdefault(key, (set(), []))
        names.add(name)
        together.extend(inner)
    yield thing, {key: sorted(names) for key, (names, _) in asked.items()}, way
    for key, (names, together) in asked.items():
        name = min(names)
        if len(names) == 1 and name and target(world, kind, name) not in LEAVES:
            for other, steps in leaves_of(fields[name]):
                yield from visits(world, parts, tuple(together), things, other, truth, way + (key, *steps))


def leaves_of(value, steps=()):
    """The names in nested lists, with their indexes."""
    if isinstance(value, str):
        yield value, steps
    elif isinstance(value, list):
        for index, item in enumerate(value):
            yield from leaves_of(item, steps + (index,))


def clash_ways(world, parts, rows, things, first, truth):
    return [way + (key,) for _, asked, way in visits(world, parts, rows, things, first, truth)
            for key, names in asked.items() if len(names) > 1]


def reads(world, parts, rows, things, first, truth):
    found = set()
    for thing, asked, _ in visits(world, parts, rows, things, first, truth):
        found.update((thing, name) for names in asked.values() for name in names if name)
    return sorted(found)


def faults(world, parts, rows, things, first, truth):
    found = set()
    for thing, asked, way in visits(world, parts, rows, things, first, truth):
        kind, fields = things[thing]
        for key, names in asked.items():
            if names != [""]:
                for where, value, sure in spots(shapes(world, kind)[names[0]], fields[names[0]], way + (key,), False):
                    if value == FAIL or (value is None and sure):
                        found.add(where)
    return sorted(found)


def spots(shape, value, way, sure):
    """Each value inside a value with its way, and whether its shape is sure."""
    if isinstance(shape, tuple) and shape[0] == "sure":
        yield from spots(shape[1], value, way, True)
        return
    yield way, value, sure
    if isinstance(shape, tuple) and isinstance(value, list):
        for index, item in enumerate(value):
            yield from spots(shape[1], item, way + (index,), False)


def data(world, parts, rows, things, first, truth):
    """The data of an answer without clashes."""
    try:
        return thing_data(world, parts, rows, things, first, truth)
    except Risen:
        return None


def thing_data(world, parts, rows, things, thing, truth):
    kind, fields = things[thing]
    found = {}
    together = {}
    for key, name, inner in entries(world, parts, rows, kind, truth):
        together[key] = (name, together.get(key, (name, ()))[1] + tuple(inner))
    for key, (name, inner) in together.items():
        if name == "":
            found[key] = kind
        else:
            found[key] = completed(world, parts, inner, things, shapes(world, kind)[name], fields[name], truth)
    return found


def completed(world, parts, rows, things, shape, value, truth):
    """A completed value; Risen goes out to whatever is around it."""
    if isinstance(shape, tuple) and shape[0] == "sure":
        result = completed(world, parts, rows, things, shape[1], value, truth)
        if result is None:
            raise Risen
        return result
    if value is None or value == FAIL:
        return None
    try:
        if isinstance(shape, tuple):
            return [completed(world, parts, rows, things, shape[1], item, truth) for item in value]
        if shape in LEAVES:
            return value
        return thing_data(world, parts, rows, things, value, truth)
    except Risen:
        return None


def ways(form, way=()):
    """All ways of a plain form with the forms there."""
    yield way, form
    for key, (_, below) in form.items():
        for kind, inner in (below or {}).items():
            yield from ways(inner, way + ((key, kind),))


def form_of(world, question, truth):
    """The plain form of a tuple (rows, parts)."""
    rows, parts = question
    return oracle.form_and_clashes(world, parts, rows, world["root"], truth)[0]


def common_truths(one, other):
    return truths(sorted({*oracle.flags_of(*one), *oracle.flags_of(*other)}))


def first_clash(world, one, other):
    """The way of keys of the clash that `parted` raises, or None."""
    for truth in common_truths(one, other):
        for rows, parts in (one, other):
            found = oracle.form_and_clashes(world, parts, rows, world["root"], truth)[1]
            if found:
                return min(found)
    return None


def parted(world, one, other):
    """The flags and the way of [8.3], or None."""
    found = []
    for index, truth in enumerate(common_truths(one, other)):
        others = dict(ways(form_of(world, other, truth)))
        for way, form in ways(form_of(world, one, truth)):
            if way in others:
                names = [{key: name for key, (name, _) in either.items()} for either in (form, others[way])]
                if names[0] != names[1]:
                    found.append((len(way), index, way))
    if not found:
        return None
    _, index, way = min(found)
    return common_truths(one, other)[index], way


def meetings(world, parts, rows, kind, truth, way=()):
    """All tuples (way, key, one, other) at which two names meet first."""
    asked = {}
    for key, name, inner in entries(world, parts, rows, kind, truth):
        asked.setdefault(key, []).append((name, inner))
    for key, found in asked.items():
        names = sorted({name for name, _ in found})
        if len(names) > 1:
            yield way, key, names[0], names[1]
        elif names[0] and target(world, kind, names[0]) not in LEAVES:
            together = tuple(row for _, inner in found for row in inner)
            for member in members(world, target(world, kind, names[0])):
                yield from meetings(world, parts, together, member, truth, way + ((key, member),))


def clash(world, rows, parts):
    found = []
    for index, truth in enumerate(truths(oracle.flags_of(rows, parts))):
        for meeting in meetings(world, parts, rows, world["root"], truth):
            found.append((len(meeting[0]), index, meeting))
    if not found:
        return None
    _, index, meeting = min(found)
    return (truths(oracle.flags_of(rows, parts))[index], *meeting)


def written_fields(world, parts, base, rows):
    """The fields of rows as tuples (key, name, base, shape, rows)."""
    for statement in rows:
        word = statement[0]
        if word == "field":
            yield statement[2], statement[1], base, shapes(world, base)[statement[1]], statement[3]
        elif word == "kind":
            yield statement[1], "", base, ("sure", "text"), ()
        elif word == "on":
            yield from written_fields(world, parts, statement[1], statement[2])
        elif word == "part":
            yield from written_fields(world, parts, *parts[statement[1]])
        else:
            yield from written_fields(world, parts, base, statement[3])


def opened(shape):
    """The wrappers and the base of a shape."""
    wrappers = []
    while isinstance(shape, tuple):
        wrappers.append(shape[0])
        shape = shape[1]
    return wrappers, shape


def conflicts(world, parts, several, strict=True, way=()):
    """All pairs (way, key) of conflicts, where a set is a list of tuples (base, rows)."""
    fields = [field for base, rows in several for field in written_fields(world, parts, base, rows)]
    different = [field for index, field in enumerate(fields) if field not in fields[:index]]
    for one, other in itertools.combinations_with_replacement(different, 2):
        if one[0] != other[0]:
            continue
        key = one[0]
        are_strict = one[2] == other[2] or one[2] not in world["kinds"] or other[2] not in world["kinds"]
        (wrappers, base), (other_wrappers, other_base) = opened(one[3]), opened(other[3])
        if wrappers != other_wrappers or ((base in LEAVES or other_base in LEAVES) and base != other_base):
            yield way, key
        elif one[1] != other[1] and are_strict and strict:
            yield way, key
        elif base not in LEAVES and other_base not in LEAVES:
            below = [(base, one[4]), (other_base, other[4])]
            yield from conflicts(world, parts, below, strict and are_strict, way + (key,))


def written(world, rows, parts):
    found = [(len(way), way, key) for way, key in conflicts(world, parts, [(world["root"], rows)])]
    return min(found)[1:] if found else None


def wholly_sure(shape):
    """Whether the base and each list stand directly in a "sure"."""
    wrappers, _ = opened(shape)
    wrapped = [""] + wrappers + ["base"]
    return all(wrapped[at - 1] == "sure" for at in range(1, len(wrapped)) if wrapped[at] in ("list", "base"))


def rises(world, rows, parts, truth):
    """All tuples (way, key, up), with the pairs (kind, field) of all keys."""
    found = []
    for way, form in ways(form_of(world, (rows, parts), truth)):
        steps, kind, here = [], world["root"], form_of(world, (rows, parts), truth)
        for key, member in way:
            steps.append((kind, here[key][0]))
            kind, here = member, here[key][1][member]
        for key, (name, _) in form.items():
            if name:
                up = len(way) + 1
                if shapes(world, kind)[name][0] == "sure":
                    up = max([0] + [at + 1 for at, step in enumerate(steps) if not wholly_sure(shapes(world, step[0])[step[1]])])
                found.append((way, key, up, (*steps, (kind, name))))
    return sorted(found)


def linked(world, kind, field):
    """All kinds whose field of this name changes with that of this kind."""
    found = {kind}
    while True:
        faces = {face for other in found for face in world["kinds"][other][0] if field in world["faces"][face]}
        more = found | {other for other, (held, _) in world["kinds"].items() if faces & set(held)}
        if more == found:
            return found
        found = more


def changed(world, change):
    """The world after a change."""
    kinds = linked(world, *change)
    field = change[1]
    shape = world["kinds"][change[0]][1][field]
    faces = {face for kind in kinds for face in world["kinds"][kind][0] if field in world["faces"][face]}
    new_kinds = {kind: (held, {**fields, field: shape[1]} if kind in kinds else fields)
                 for kind, (held, fields) in world["kinds"].items()}
    new_faces = {face: {**fields, field: shape[1]} if face in faces else fields for face, fields in world["faces"].items()}
    return {**world, "kinds": new_kinds, "faces": new_faces}


def changes(world):
    """The names of all changes of a world."""
    return sorted({(min(linked(world, kind, field)), field) for kind, (_, fields) in world["kinds"].items()
                   for field, shape in fields.items() if shape[0] == "sure"})


def wipes(world, rows, parts, truth, depth):
    return [(way, key) for way, key, up, _ in rises(world, rows, parts, truth) if up < depth and up < len(way) + 1]


def held(world, rows, parts, truth, depth, most):
    """The least list of changes, found by trying all of them, or None."""
    for many in range(most + 1):
        for chosen in itertools.combinations(changes(world), many):
            other = world
            for change in chosen:
                other = changed(other, change)
            if not wipes(other, rows, parts, truth, depth):
                return list(chosen)
    return None


def helping(world, rows, parts, truth, depth):
    """All changes that help some field of wipes."""
    found = set()
    for way, _, up, steps in rises(world, rows, parts, truth):
        if up < depth and up < len(way) + 1:
            found.update((min(linked(world, *step)), step[1]) for step in steps[min(depth, len(steps)) - 1:])
    return sorted(found)
