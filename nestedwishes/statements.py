"""Statements: their five forms, and what stands inside of them."""

from nestedwishes.names import is_key, is_name
from nestedwishes.shapes import LEAVES

MOST_ROWS = 6


def is_rows(rows):
    """Tell if a value is a tuple of at most six items, whatever these are."""
    return isinstance(rows, tuple) and len(rows) <= MOST_ROWS


def has_members(schema, base):
    """Tell if a value is a kind, a face or a union."""
    return base in schema and base not in LEAVES


def is_part(schema, part):
    """Tell if a value is a tuple of a kind, face or union and of rows."""
    return isinstance(part, tuple) and len(part) == 2 and has_members(schema, part[0]) and is_rows(part[1])


def is_statement(schema, parts, base, statement):
    """Tell if a value has one of the five forms and may stand at this base. Its rows are not looked into."""
    if not isinstance(statement, tuple) or len(statement) == 0:
        return False
    word = statement[0]
    if word == "field" and len(statement) == 4:
        return is_field(schema, base, statement)
    if word == "kind" and len(statement) == 2:
        return is_name(statement[1])
    if word == "on" and len(statement) == 3:
        return has_members(schema, statement[1]) and is_rows(statement[2])
    if word == "part" and len(statement) == 2:
        return is_key(statement[1], parts)
    if word == "if" and len(statement) == 4:
        return is_name(statement[1]) and isinstance(statement[2], bool) and is_rows(statement[3])
    return False


def is_field(schema, base, statement):
    """Tell if the four items of a "field" statement are right at this base."""
    name, key, rows = statement[1:]
    if not is_key(name, schema.fields(base)) or not is_name(key) or not is_rows(rows):
        return False
    return len(rows) == 0 or schema.target(base, name) not in LEAVES


def inner_rows(statement):
    """Return the rows that are written inside a statement."""
    if statement[0] == "kind" or statement[0] == "part":
        return ()
    return statement[-1]


def inner_base(schema, base, statement):
    """Return the base that stands at the statements inside a statement at this base."""
    if statement[0] == "field":
        return schema.target(base, statement[1])
    if statement[0] == "on":
        return statement[1]
    return base


def flags_of(statements):
    """Return the different flags of some statements, ascending."""
    return sorted(set([statement[1] for statement in statements if statement[0] == "if"]))
