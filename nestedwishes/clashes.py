"""Where two wishes for one key meet: found exactly, and by a rule that looks at the text alone."""

from nestedwishes.shapes import LEAVES
from nestedwishes.sites import Sites, first_level, next_level
from nestedwishes.statements import inner_rows
from nestedwishes.truths import all_truths

KIND_SHAPE = ("sure", "text")


def clash(question):
    """Return (flags, way, key, one, other) for the nearest key that clashes, or None if no key ever does."""
    nearest = None
    for truth in all_truths(question.flags()):
        meeting = least_meeting(Sites(question, truth))
        if meeting is not None and (nearest is None or len(meeting[0]) < len(nearest[1])):
            nearest = (truth, *meeting)
    return nearest


def least_meeting(sites):
    """Return (way, key, one, other) for the least of the shortest ways with a key that clashes, or None."""
    level = first_level([sites])
    while level:
        found = []
        for kind, numbers in level:
            wishes = sites.wishes(kind, numbers[0])
            for key in wishes:
                names = wishes[key][0]
                if len(names) > 1:
                    found.append((level[kind, numbers], key, names[0], names[1]))
        if found:
            return min(found)
        level = next_level([sites], level)
    return None


def written(question):
    """Return (way, key) for the nearest conflict by the written rule, or None if there is none."""
    # A set stands here as the places of the rows in it, with the truth that all pairs around it were strict.
    level = {(((),), True): ()}
    while level:
        found = []
        below = {}
        for (around, strict), way in level.items():
            for one, other in pairs_in(question, around):
                longer = way + (wish_at(question, one)[0],)
                if is_conflict(question, one, other, strict):
                    found.append((way, longer[-1]))
                else:
                    # Fields of leaves have no rows, so that nothing is found in the set below them.
                    inner = ((one, other), strict and is_strict(question, one, other))
                    below[inner] = min(longer, below.get(inner, longer))
        if found:
            return min(found)
        level = below
    return None


def pairs_in(question, around):
    """Return the pairs of the fields in a set that have one key. Each field is also paired with itself."""
    fields = list({field: True for place in around for field in fields_in(question, place)})
    pairs = [(fields[first], fields[last]) for last in range(len(fields)) for first in range(last + 1)]
    return [(one, other) for one, other in pairs if wish_at(question, one)[0] == wish_at(question, other)[0]]


def fields_in(question, place):
    """Return the places of the fields in the rows at a place, also of those within "on", "if" and parts."""
    found = []
    for index in range(len(rows_at(question, place))):
        below = place + (index,)
        statement = question[below]
        if statement[0] == "field" or statement[0] == "kind":
            found.append(below)
        elif statement[0] == "part":
            found.extend(fields_in(question, (statement[1],)))
        else:
            found.extend(fields_in(question, below))
    return found


def rows_at(question, place):
    """Return the rows of the question at (), those of a part at its name alone, or those inside a statement."""
    if place == ():
        return question.rows
    if place in question:
        return inner_rows(question[place])
    return question.parts()[place[0]][1]


def wish_at(question, place):
    """Return the key, the name and the shape of a field; those of a kind statement are like a field's."""
    statement = question[place]
    if statement[0] == "kind":
        return (statement[1], "", KIND_SHAPE)
    return (statement[2], statement[1], question.schema.shape_of(question.base_at(place), statement[1]))


def is_strict(question, one, other):
    """Tell if the bases of two fields do not show that they never stand at one thing."""
    bases = [question.base_at(one), question.base_at(other)]
    return bases[0] == bases[1] or not all([base in question.schema.kinds() for base in bases])


def is_conflict(question, one, other, strict):
    """Tell if two fields of one key conflict, where `strict` tells if all pairs around them were strict."""
    first, second = wish_at(question, one), wish_at(question, other)
    if not is_match(first[2], second[2]):
        return True
    return first[1] != second[1] and strict and is_strict(question, one, other)


def is_match(one, other):
    """Tell if two shapes have the same wrappers, and inside of them the same leaf or no leaf."""
    if isinstance(one, tuple) and isinstance(other, tuple):
        return one[0] == other[0] and is_match(one[1], other[1])
    if isinstance(one, tuple) or isinstance(other, tuple):
        return False
    return one == other or (one not in LEAVES and other not in LEAVES)
