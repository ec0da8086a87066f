"""The reasons for which a store is refused, in their order, and the values that may stand in it."""

from nestedwishes.errors import BadStore
from nestedwishes.names import is_key, is_plain_int
from nestedwishes.schema_checks import is_table
from nestedwishes.shapes import is_sure

FAIL = ("fail",)
MOST_THINGS = 12
MOST_ITEMS = 6
MOST_LETTERS = 12
# The blank, the tilde, and the percent sign between them.
FIRST_SIGN = 32
LAST_SIGN = 126
BARRED_SIGN = 37


def check_store(schema, things, first):
    """Raise BadStore for the first reason that applies."""
    if not is_table(things, 1, MOST_THINGS, ()):
        raise BadStore("", "")
    check_things(schema, things)
    kinds = {name: things[name][0] for name in things}
    check_values(schema, kinds, things)
    if not is_key(first, kinds) or kinds[first] != schema.root:
        raise BadStore("", "")


def check_new_names(names, things):
    """Raise BadStore if things cannot be added to those with these names, whatever the things are."""
    if not is_table(things, 0, MOST_THINGS, ()) or len(set([*names, *things])) > MOST_THINGS:
        raise BadStore("", "")
    for name in sorted(things):
        if name in names:
            raise BadStore(name, "")


def check_things(schema, things):
    """Raise BadStore for the least thing that is not a tuple of a kind and of a dict of its fields."""
    for name in sorted(things):
        if not is_thing(schema, things[name]):
            raise BadStore(name, "")


def is_thing(schema, thing):
    """Tell if a value is a tuple of a kind and of a dict from exactly its fields, whatever their values are."""
    if not isinstance(thing, tuple) or len(thing) != 2:
        return False
    kind, fields = thing
    if not is_key(kind, schema.kinds()) or not isinstance(fields, dict):
        return False
    needed = schema.fields(kind)
    return len(fields) == len(needed) and all([field in fields for field in needed])


def check_values(schema, kinds, things):
    """Raise BadStore for the least pair of one of these things and a field with a wrong value.

    The kinds are a dict from all things that a value may name to their kinds.
    """
    for name in sorted(things):
        kind, fields = things[name]
        for field in sorted(fields):
            if not is_value(schema, kinds, schema.shape_of(kind, field), fields[field]):
                raise BadStore(name, field)


def is_value(schema, kinds, shape, value):
    """Tell if a value is one of this shape, where a dict leads from the things to their kinds."""
    if value is None or value == FAIL:
        return True
    if is_sure(shape):
        return is_value(schema, kinds, shape[1], value)
    if isinstance(shape, tuple):
        if not isinstance(value, list) or len(value) > MOST_ITEMS:
            return False
        return all([is_value(schema, kinds, shape[1], item) for item in value])
    if shape == "number":
        return is_number(value)
    if shape == "text":
        return is_text(value)
    return is_key(value, kinds) and kinds[value] in schema.members(shape)


def is_number(value):
    """Tell if a value is an integer of at most thirty digits."""
    return is_plain_int(value) and abs(value) < 10 ** 30


def is_text(value):
    """Tell if a value is a string of at most twelve characters that may stand in a text."""
    if not isinstance(value, str) or len(value) > MOST_LETTERS:
        return False
    return all([FIRST_SIGN <= ord(sign) <= LAST_SIGN and ord(sign) != BARRED_SIGN for sign in value])


def copied(value):
    """Return a value in which each list is a new one."""
    if isinstance(value, list):
        return [copied(item) for item in value]
    return value
