"""The reasons for which a schema is refused, in their order."""

from nestedwishes.errors import BadSchema
from nestedwishes.names import is_key, is_name
from nestedwishes.shapes import LEAVES, is_shape

MOST_KINDS = 6
MOST_FACES = 3
MOST_UNIONS = 3
MOST_KIND_FIELDS = 5
MOST_FACE_FIELDS = 4
MOST_UNION_KINDS = 4


def check_schema(kinds, faces, unions, root):
    """Raise BadSchema for the first reason that applies."""
    check_names(kinds, faces, unions)
    bases = [*LEAVES, *kinds, *faces, *unions]
    for name in sorted(kinds):
        if not is_kind(kinds[name], faces, bases):
            raise BadSchema("kinds", name)
    for name in sorted(faces):
        if not is_face(name, faces[name], kinds, bases):
            raise BadSchema("faces", name)
    for name in sorted(unions):
        if not is_union(unions[name], kinds):
            raise BadSchema("unions", name)
    if not is_key(root, kinds):
        raise BadSchema("root", "")


def check_names(kinds, faces, unions):
    """Raise BadSchema if the names of the kinds, faces and unions are wrong."""
    if not is_table(kinds, 1, MOST_KINDS, LEAVES):
        raise BadSchema("kinds", "")
    if not is_table(faces, 0, MOST_FACES, [*LEAVES, *kinds]):
        raise BadSchema("faces", "")
    if not is_table(unions, 0, MOST_UNIONS, [*LEAVES, *kinds, *faces]):
        raise BadSchema("unions", "")


def is_table(table, least, most, taken):
    """Tell if a value is a dict of so many names, none of which is taken."""
    if not isinstance(table, dict) or not least <= len(table) <= most:
        return False
    return all([is_name(name) and name not in taken for name in table])


def is_choice(names, table):
    """Tell if a value is a tuple of different names of a table."""
    if not isinstance(names, tuple) or not all([is_key(name, table) for name in names]):
        return False
    return len(set(names)) == len(names)


def is_fields(fields, most, bases):
    """Tell if a value is a dict from one name or more, at most so many, to shapes over these bases."""
    if not is_table(fields, 1, most, ()):
        return False
    return all([is_shape(fields[name], bases) for name in fields])


def is_kind(worth, faces, bases):
    """Tell if a value is a tuple of the faces and the fields of a kind."""
    if not isinstance(worth, tuple) or len(worth) != 2:
        return False
    return is_choice(worth[0], faces) and is_fields(worth[1], MOST_KIND_FIELDS, bases)


def is_face(name, fields, kinds, bases):
    """Tell if the fields of a face are right, and some kinds have the face with all of these fields."""
    if not is_fields(fields, MOST_FACE_FIELDS, bases):
        return False
    holders = [kinds[kind][1] for kind in kinds if name in kinds[kind][0]]
    return len(holders) > 0 and all([has_fields(holder, fields) for holder in holders])


def has_fields(holder, fields):
    """Tell if all of the fields stand in the holder, with the same shapes."""
    return all([field in holder and holder[field] == fields[field] for field in fields])


def is_union(worth, kinds):
    """Tell if a value is a tuple of one to four different kinds."""
    return is_choice(worth, kinds) and 1 <= len(worth) <= MOST_UNION_KINDS
