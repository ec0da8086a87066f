"""Stores that are made up to show something. No value in them is empty or fails."""

from nestedwishes.answers import Store
from nestedwishes.names import LETTERS
from nestedwishes.schema_checks import MOST_KINDS
from nestedwishes.shapes import is_sure


def store_along(schema, steps):
    """Return a store in which the steps (field, kind) lead from the first thing to another one, and that thing.

    The things of the way are different, and no other values lead to them.
    """
    names = sample_names(schema)
    things = {names[kind]: (kind, sample_fields(schema, kind, names)) for kind in names}
    passed = [schema.root, *[kind for field, kind in steps]]
    way = [LETTERS[MOST_KINDS + index] for index in range(len(passed))]
    for index in range(len(passed)):
        fields = sample_fields(schema, passed[index], names)
        if index < len(steps):
            field = steps[index][0]
            fields[field] = leading_value(schema.shape_of(passed[index], field), way[index + 1])
        things[way[index]] = (passed[index], fields)
    return Store(schema, things, way[0]), way[-1]


def sample_names(schema):
    """Return a dict from each kind to the name of the thing that stands for it."""
    kinds = schema.kinds()
    return {kinds[index]: LETTERS[index] for index in range(len(kinds))}


def sample_fields(schema, kind, names):
    """Return values for all fields of a kind, where a dict leads from each kind to the name of a thing."""
    return {field: sample_value(schema, schema.shape_of(kind, field), names) for field in schema.fields(kind)}


def sample_value(schema, shape, names):
    """Return a value of a shape that is not empty."""
    if is_sure(shape):
        return sample_value(schema, shape[1], names)
    if isinstance(shape, tuple):
        return []
    if shape == "number":
        return 0
    if shape == "text":
        return ""
    return names[schema.members(shape)[0]]


def unlike_values(schema, shape, names):
    """Return two values that give unlike data, whatever is asked. Not each value of the shape may lead to one thing."""
    if is_sure(shape):
        return unlike_values(schema, shape[1], names)
    if isinstance(shape, tuple):
        return [], [sample_value(schema, shape[1], names)]
    if shape == "number":
        return 0, 1
    if shape == "text":
        return "", "a"
    return None, sample_value(schema, shape, names)


def leading_value(shape, thing):
    """Return the value of a shape in which each list has one item, and which leads to a thing."""
    if is_sure(shape):
        return leading_value(shape[1], thing)
    if isinstance(shape, tuple):
        return [leading_value(shape[1], thing)]
    return thing
