"""A second reading of the document, slow and plain, over the bare arguments of schemas and questions.

A world is a dict of the arguments of a schema: "kinds", "faces", "unions" and "root".
"""

import itertools

LEAVES = ("number", "text")


def is_name(value):
    return isinstance(value, str) and 1 <= len(value) <= 8 and set(value) <= set("abcdefghijklmnopqrstuvwxyz")


def members(world, base):
    if base in world["kinds"]:
        return [base]
    if base in world["faces"]:
        return sorted(kind for kind, (faces, _) in world["kinds"].items() if base in faces)
    return sorted(world["unions"].get(base, ()))


def shapes(world, base):
    if base in world["kinds"]:
        return world["kinds"][base][1]
    return world["faces"].get(base, {})


def target(world, base, field):
    shape = shapes(world, base)[field]
    while isinstance(shape, tuple):
        shape = shape[1]
    return shape


def holds_things(world, base):
    return isinstance(base, str) and any(base in world[part] for part in ("kinds", "faces", "unions"))


def six(rows):
    return isinstance(rows, tuple) and len(rows) <= 6


def wrong_place(world, rows, parts):
    """The place of the first reason for which a question is refused, or None."""
    if not six(rows) or not isinstance(parts, dict) or len(parts) > 4 or not all(map(is_name, parts)):
        return ()
    state = {"count": 0, "flags": []}
    found = wrong_in(world, parts, rows, world["root"], (), 1, state)
    if found is not None:
        return found
    for name in sorted(parts):
        part = parts[name]
        if not (isinstance(part, tuple) and len(part) == 2 and holds_things(world, part[0]) and six(part[1])):
            return (name,)
        found = wrong_in(world, parts, part[1], part[0], (name,), 1, state)
        if found is not None:
            return found
    for name in sorted(parts):
        if name in reached_parts(parts, name):
            return (name,)
    if height(rows, parts) > 5:
        return ()
    return None


def wrong_in(world, parts, rows, base, place, level, state):
    for index, statement in enumerate(rows):
        here = place + (index,)
        if level > 5 or state["count"] == 40 or not right(world, parts, base, statement, state):
            return here
        state["count"] += 1
        word = statement[0]
        if word in ("field", "on", "if"):
            below = {"field": lambda: target(world, base, statement[1]), "on": lambda: statement[1], "if": lambda: base}
            found = wrong_in(world, parts, statement[-1], below[word](), here, level + 1, state)
            if found is not None:
                return found
    return None


def right(world, parts, base, statement, state):
    if not isinstance(statement, tuple) or not statement or not isinstance(statement[0], str):
        return False
    word, *rest = statement
    if word == "field":
        if len(rest) != 3 or not isinstance(rest[0], str) or rest[0] not in shapes(world, base):
            return False
        return is_name(rest[1]) and six(rest[2]) and (rest[2] == () or target(world, base, rest[0]) not in LEAVES)
    if word == "kind":
        return len(rest) == 1 and is_name(rest[0])
    if word == "on":
        return len(rest) == 2 and holds_things(world, rest[0]) and six(rest[1])
    if word == "part":
        return len(rest) == 1 and isinstance(rest[0], str) and rest[0] in parts
    if word == "if":
        if len(rest) != 3 or not is_name(rest[0]) or type(rest[1]) is not bool or not six(rest[2]):
            return False
        if rest[0] not in state["flags"]:
            state["flags"].append(rest[0])
        return len(state["flags"]) <= 3
    return False


def statements(rows, place=()):
    """All statements of rows with their places, in reading order."""
    for index, statement in enumerate(rows):
        yield place + (index,), statement
        if statement[0] in ("field", "on", "if"):
            yield from statements(statement[-1], place + (index,))


def everything(rows, parts):
    yield from statements(rows)
    for name in sorted(parts):
        yield from statements(parts[name][1], (name,))


def used_parts(rows):
    return {statement[1] for _, statement in statements(rows) if statement[0] == "part"}


def reached_parts(parts, name):
    reached = used_parts(parts[name][1])
    for _ in parts:
        reached = reached.union(*(used_parts(parts[other][1]) for other in reached))
    return reached


def height(rows, parts):
    heights = [0]
    for statement in rows:
        if statement[0] == "kind":
            heights.append(1)
        elif statement[0] == "part":
            heights.append(1 + height(parts[statement[1]][1], parts))
        else:
            heights.append(1 + height(statement[-1], parts))
    return max(heights)


def flags_of(rows, parts):
    return sorted({statement[1] for _, statement in everything(rows, parts) if statement[0] == "if"})


def truths(flags):
    return [dict(zip(flags, values)) for values in itertools.product((False, True), repeat=len(flags))]


def entries(world, parts, rows, kind, truth):
    for statement in rows:
        word = statement[0]
        if word == "field":
            yield statement[2], statement[1], statement[3]
        elif word == "kind":
            yield statement[1], "", ()
        elif word == "on" and kind in members(world, statement[1]):
            yield from entries(world, parts, statement[2], kind, truth)
        elif word == "part" and kind in members(world, parts[statement[1]][0]):
            yield from entries(world, parts, parts[statement[1]][1], kind, truth)
        elif word == "if" and truth[statement[1]] == statement[2]:
            yield from entries(world, parts, statement[3], kind, truth)


def form_and_clashes(world, parts, rows, kind, truth):
    """The plain form, of any of the names where a key clashes, and all ways of keys that clash."""
    form, ways = {}, []
    found = list(entries(world, parts, rows, kind, truth))
    for key in {key for key, _, _ in found}:
        names = {name for other, name, _ in found if other == key}
        if len(names) > 1:
            ways.append((key,))
            continue
        name = names.pop()
        below = target(world, kind, name) if name else "text"
        if below in LEAVES:
            form[key] = (name, None)
            continue
        together = tuple(row for other, _, inner in found if other == key for row in inner)
        forms = {}
        for member in members(world, below):
            forms[member], more = form_and_clashes(world, parts, together, member, truth)
            ways.extend((key, *way) for way in more)
        form[key] = (name, forms)
    return form, ways


def asked(world, parts, rows, kind, truth, place=()):
    """All pairs of a place and a kind of which its statement is asked."""
    for index, statement in enumerate(rows):
        here = place + (index,)
        yield here, kind
        word = statement[0]
        if word == "field" and target(world, kind, statement[1]) not in LEAVES:
            for member in members(world, target(world, kind, statement[1])):
                yield from asked(world, parts, statement[3], member, truth, here)
        elif word == "on" and kind in members(world, statement[1]):
            yield from asked(world, parts, statement[2], kind, truth, here)
        elif word == "part" and kind in members(world, parts[statement[1]][0]):
            yield from asked(world, parts, parts[statement[1]][1], kind, truth, (statement[1],))
        elif word == "if" and truth[statement[1]] == statement[2]:
            yield from asked(world, parts, statement[3], kind, truth, here)


def applications(world, parts, rows):
    """A dict from each place to the list of its kinds and flags."""
    found = {place: set() for place, _ in everything(rows, parts)}
    for truth in truths(flags_of(rows, parts)):
        for place, kind in asked(world, parts, rows, world["root"], truth):
            found[place].add((kind, tuple(sorted(truth.items()))))
    return {place: sorted(pairs) for place, pairs in found.items()}


def pruned(world, parts, rows):
    """The rows and the parts without what is needless."""
    idle = {place for place, pairs in applications(world, parts, rows).items() if not pairs}

    def needless(place, statement):
        if place in idle:
            return True
        if statement[0] in ("on", "if"):
            return all(needless(place + (at,), row) for at, row in enumerate(statement[-1]))
        if statement[0] == "part":
            return all(needless((statement[1], at), row) for at, row in enumerate(parts[statement[1]][1]))
        return False

    def kept(inner, place):
        left = []
        for at, statement in enumerate(inner):
            if not needless(place + (at,), statement):
                if statement[0] in ("field", "on", "if"):
                    statement = (*statement[:-1], kept(statement[-1], place + (at,)))
                left.append(statement)
        return tuple(left)

    left = {name: (base, kept(inner, (name,))) for name, (base, inner) in parts.items()}
    return kept(rows, ()), {name: part for name, part in left.items() if part[1]}


def fixed(world, parts, rows, truth):
    """The rows and the parts with "on" in the place of "if"."""

    def changed(inner, base):
        left = []
        for statement in inner:
            word = statement[0]
            if word == "field":
                left.append((*statement[:3], changed(statement[3], target(world, base, statement[1]))))
            elif word == "on":
                left.append(("on", statement[1], changed(statement[2], statement[1])))
            elif word == "if" and truth[statement[1]] == statement[2]:
                left.append(("on", base, changed(statement[3], base)))
            elif word != "if":
                left.append(statement)
        return tuple(left)

    return changed(rows, world["root"]), {name: (base, changed(inner, base)) for name, (base, inner) in parts.items()}
