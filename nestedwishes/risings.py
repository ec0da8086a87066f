"""How far a failure rises, and which changes of the schema keep it from rising so far."""

from nestedwishes.bounds import check_number
from nestedwishes.errors import TooMany
from nestedwishes.shapes import is_sure, target_of
from nestedwishes.sites import Sites, check_clashes
from nestedwishes.truths import check_flags

MOST_DEPTH = 10
MOST_CHANGES = 3
MOST_TRIED = 12


def rises(question, flags):
    """Return (way, key, up) for each field of the plain form, ascending, where `up` of its keys are left."""
    check_flags(question.flags(), flags)
    return sorted([(way, key, up) for way, key, up, steps in all_risings(question, flags)])


def wipes(question, flags, *, depth=1):
    """Return (way, key) for each field that leaves less than all of its keys, and less than `depth`, ascending."""
    check_flags(question.flags(), flags)
    check_number(depth, MOST_DEPTH)
    return sorted([(way, key) for way, key, up, steps in wiping(question, flags, depth)])


def held(question, flags, *, depth=1, most=3):
    """Return the least list of changes after which `wipes` is empty, or None if it takes more than `most`."""
    check_flags(question.flags(), flags)
    check_number(depth, MOST_DEPTH)
    check_number(most, MOST_CHANGES)
    needs = [helping(question.schema, steps, depth) for way, key, up, steps in wiping(question, flags, depth)]
    changes = sorted(set([change for helpers in needs for change in helpers]))
    if len(changes) > MOST_TRIED:
        raise TooMany(MOST_TRIED)
    different = sorted(set(needs))
    for many in range(most + 1):
        for chosen in choices_of(changes, many):
            if all([any([change in chosen for change in helpers]) for helpers in different]):
                return list(chosen)
    return None


def wiping(question, truth, depth):
    """Return those of all_risings that leave less than all of their keys, and less than `depth`."""
    return [rising for rising in all_risings(question, truth) if rising[2] < min(depth, len(rising[3]))]


def all_risings(question, truth):
    """Return (way, key, up, steps) for each field of the plain form, or raise Clash.

    The steps are the pairs (kind, field) of all keys of the field.
    """
    sites = Sites(question, truth)
    check_clashes(sites)
    schema = question.schema
    found = []
    waiting = [(schema.root, 0, (), (), 0)]
    while waiting:
        kind, number, way, steps, kept = waiting.pop()
        wishes = sites.wishes(kind, number)
        for key in wishes:
            names, below = wishes[key]
            if names[0] != "":
                longer = steps + ((kind, names[0]),)
                shape = schema.shape_of(kind, names[0])
                found.append((way, key, left_keys(is_sure(shape), longer, kept), longer))
                left = left_keys(is_wholly_sure(shape), longer, kept)
                for member in schema.members(target_of(shape)):
                    waiting.append((member, below, way + ((key, member),), longer, left))
    return found


def left_keys(gone, steps, kept):
    """Return the number of keys that are left: all, or `kept` if the thing around the last one is wiped."""
    if gone:
        return kept
    return len(steps)


def is_wholly_sure(shape):
    """Tell if the target and each list of a shape stand directly in a "sure"."""
    if not is_sure(shape):
        return False
    inner = shape[1]
    return not isinstance(inner, tuple) or is_wholly_sure(inner[1])


def helping(schema, steps, depth):
    """Return the different changes that help the field of the last step, ascending: those from key `depth` on."""
    first = min(depth, len(steps))
    return tuple(sorted(set([change_of(schema, kind, field) for kind, field in steps[first - 1:]])))


def change_of(schema, kind, field):
    """Return the name of the change of a field."""
    return (schema.linked(kind, field)[0], field)


def choices_of(changes, many):
    """Return all tuples of so many of the changes, in ascending order."""
    if many == 0:
        return [()]
    found = []
    for index in range(len(changes)):
        found.extend([(changes[index],) + others for others in choices_of(changes[index + 1:], many - 1)])
    return found
