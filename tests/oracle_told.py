"""The second reading goes on: what one answer tells of another, over whole plain forms, and which stores are clean."""

from tests.oracle import LEAVES, members, shapes, target
from tests.oracle_answers import FAIL, form_of, spots, ways


def is_clean(world, things):
    """Whether nothing fails in the things, and nothing is empty at a sure place."""
    for kind, fields in things.values():
        for field, value in fields.items():
            for _, found, sure in spots(shapes(world, kind)[field], value, (), False):
                if found == FAIL or (found is None and sure):
                    return False
    return True


def unclear(world, question, truth):
    """The way of [11.2], or None."""
    found = []
    for way, form in ways(form_of(world, question, truth)):
        for key, (_, below) in form.items():
            if below is not None and len(below) > 1:
                markers = [{other for other, (name, _) in inner.items() if name == ""} for inner in below.values()]
                if not set.intersection(*markers):
                    found.append(tuple(step for step, _ in way) + (key,))
    return min(found, key=lambda keys: (len(keys), keys)) if found else None


class Varying(Exception):
    pass


def constant(world, kind, form):
    """The constant data of a form; Varying is raised if it has none."""
    return {key: kind if name == "" else constant_field(world, kind, name, below) for key, (name, below) in form.items()}


def constant_field(world, kind, name, below):
    shape = shapes(world, kind)[name]
    if not (isinstance(shape, tuple) and shape[0] == "sure" and not isinstance(shape[1], tuple) and shape[1] not in LEAVES):
        raise Varying
    data = [constant(world, member, below[member]) for member in members(world, shape[1])]
    if any(other != data[0] for other in data):
        raise Varying
    return data[0]


def told_form(world, kind, form, bundle):
    """Whether a form is told by a list of forms."""
    return all(name == "" or told_field(world, kind, name, below, bundle) for name, below in form.values())


def told_field(world, kind, name, below, bundle):
    try:
        constant_field(world, kind, name, below)
        return True
    except Varying:
        pass
    same = [inner for form in bundle for other, inner in form.values() if other == name]
    if not same:
        return False
    if target(world, kind, name) in LEAVES:
        return True
    return all(told_form(world, member, below[member], [inner[member] for inner in same]) for member in below)


def told(world, one, other, truth):
    """Whether the question `other` tells `one`, where both are tuples (rows, parts)."""
    return told_form(world, world["root"], form_of(world, one, truth), [form_of(world, other, truth)])
