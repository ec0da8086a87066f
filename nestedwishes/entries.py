"""What rows ask of a thing of one kind: their entries, put together under their keys."""

from nestedwishes.shapes import LEAVES


def gives_rows(question, statement, kind, truth):
    """Tell if an "on", a "part" or an "if" gives the entries of its rows for this kind."""
    if statement[0] == "if":
        return truth[statement[1]] == statement[2]
    base = statement[1]
    if statement[0] == "part":
        base = question.parts()[statement[1]][0]
    return kind in question.schema.members(base)


def rows_given(question, statement):
    """Return the rows whose entries an "on", a "part" or an "if" may give."""
    if statement[0] == "part":
        return question.parts()[statement[1]][1]
    return statement[-1]


def entries_of(question, rows, kind, truth):
    """Return the entries (key, name, rows), in the order of the statements."""
    found = []
    for statement in rows:
        if statement[0] == "field":
            found.append((statement[2], statement[1], statement[3]))
        elif statement[0] == "kind":
            found.append((statement[1], "", ()))
        elif gives_rows(question, statement, kind, truth):
            found.extend(entries_of(question, rows_given(question, statement), kind, truth))
    return found


def wishes_of(question, rows, kind, truth):
    """Return a dict from each key to its different names, ascending, and its rows, put together.

    A key with more than one name clashes.
    """
    wishes = {}
    for key, name, inner in entries_of(question, rows, kind, truth):
        names, together = wishes.get(key, ([], ()))
        wishes[key] = (sorted(set([*names, name])), together + inner)
    return wishes


def members_below(schema, kind, name):
    """Return the kinds of the things that a field leads to, or None for a leaf and for the name of a kind marker."""
    if name == "":
        return None
    target = schema.target(kind, name)
    if target in LEAVES:
        return None
    return schema.members(target)
