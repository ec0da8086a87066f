"""The reasons for which a question is refused, in their order."""

from nestedwishes.errors import BadQuestion
from nestedwishes.names import is_name
from nestedwishes.statements import flags_of, inner_base, inner_rows, is_part, is_rows, is_statement

MOST_PARTS = 4
MOST_LEVELS = 5
MOST_STATEMENTS = 40
MOST_FLAGS = 3
MOST_HEIGHT = 5


def checked_statements(schema, rows, parts):
    """Return a tuple (place, base, statement) for each statement, in reading order, or raise BadQuestion."""
    if not is_rows(rows) or not is_part_table(parts):
        raise BadQuestion(())
    found = statements_below(schema, parts, [], ((), schema.root, rows))
    for name in sorted(parts):
        if not is_part(schema, parts[name]):
            raise BadQuestion((name,))
        base, inner = parts[name]
        found = statements_below(schema, parts, found, ((name,), base, inner))
    for name in sorted(parts):
        if comes_to(name, uses_of_parts(parts, found)):
            raise BadQuestion((name,))
    if height_of(rows, heights_of_parts(parts)) > MOST_HEIGHT:
        raise BadQuestion(())
    return found


def is_part_table(parts):
    """Tell if a value is a dict from at most four names."""
    return isinstance(parts, dict) and len(parts) <= MOST_PARTS and all([is_name(name) for name in parts])


def statements_below(schema, parts, before, top):
    """Return the statements before, and after them all those in the rows of a tuple (place, base, rows)."""
    found = list(before)
    waiting = list(items_of(top))
    while waiting:
        item = waiting.pop()
        if is_wrong(schema, parts, found, item):
            raise BadQuestion(item[0])
        found.append(item)
        place, base, statement = item
        waiting.extend(items_of((place, inner_base(schema, base, statement), inner_rows(statement))))
    return found


def items_of(top):
    """Return the statements directly in the rows of a tuple (place, base, rows), the last one first."""
    place, base, rows = top
    return [(place + (index,), base, rows[index]) for index in range(len(rows) - 1, -1, -1)]


def is_wrong(schema, parts, before, item):
    """Tell if a statement is wrong that stands in a question after the statements before."""
    place, base, statement = item
    if level_of(place) > MOST_LEVELS or len(before) >= MOST_STATEMENTS:
        return True
    if not is_statement(schema, parts, base, statement):
        return True
    return len(flags_of([known[2] for known in [*before, item]])) > MOST_FLAGS


def level_of(place):
    """Return the number of indexes in a place."""
    if isinstance(place[0], str):
        return len(place) - 1
    return len(place)


def uses_of_parts(parts, found):
    """Return a dict from each part to the parts that the statements in its rows name."""
    return {name: [item[2][1] for item in found if item[0][0] == name and item[2][0] == "part"] for name in parts}


def comes_to(name, uses):
    """Tell if a part comes to itself."""
    reached = []
    waiting = list(uses[name])
    while waiting:
        other = waiting.pop()
        if other not in reached:
            reached.append(other)
            waiting.extend(uses[other])
    return name in reached


def heights_of_parts(parts):
    """Return a dict from each part to the height of its rows. No part may come to itself."""
    heights = {name: 0 for name in parts}
    # Each round makes the heights right of parts that come to one part more before they end.
    for turn in range(len(parts)):
        heights = {name: height_of(parts[name][1], heights) for name in parts}
    return heights


def height_of(rows, heights):
    """Return the height of rows, where a dict gives the heights of the rows of the parts."""
    return max([height_at(statement, heights) for statement in rows], default=0)


def height_at(statement, heights):
    """Return the height of a statement, where a dict gives the heights of the rows of the parts."""
    if statement[0] == "part":
        return 1 + heights[statement[1]]
    return 1 + height_of(inner_rows(statement), heights)
