"""Questions that are alike: they have the same answers."""

from nestedwishes.errors import UnlikeSchemas
from nestedwishes.samples import store_along
from nestedwishes.sites import Sites, check_clashes, first_level, next_level
from nestedwishes.store_checks import FAIL
from nestedwishes.truths import all_truths, common_flags


def alike(one, other):
    """Tell if two questions have the same answers for all stores and truths."""
    return parted(one, other) is None


def parted(one, other):
    """Return flags, a way and a store that show that two questions part, or None if they do not."""
    if one.schema != other.schema:
        raise UnlikeSchemas("the questions have different schemas")
    groups = [[Sites(one, truth), Sites(other, truth)] for truth in all_truths(common_flags(one, other))]
    for group in groups:
        for sites in group:
            check_clashes(sites)
    nearest = None
    for group in groups:
        way = least_parting(group)
        if way is not None and (nearest is None or len(way) < len(nearest[1])):
            nearest = (group, way)
    if nearest is None:
        return None
    group, way = nearest
    return dict(group[0].truth), way, parting_store(group, way)


def least_parting(group):
    """Return the least of the shortest ways at which two questions part, or None if they do not."""
    level = first_level(group)
    while level:
        ways = [level[kind, numbers] for kind, numbers in level if unlike_names(group, kind, numbers)]
        if ways:
            return min(ways)
        level = next_level(group, level)
    return None


def unlike_names(group, kind, numbers):
    """Return the pairs of names of the keys whose names are unlike; a key without a name has None."""
    asked = [names_at(sites, kind, number) for sites, number in zip(group, numbers)]
    pairs = [(asked[0].get(key), asked[1].get(key)) for key in sorted(set([*asked[0], *asked[1]]))]
    return [pair for pair in pairs if pair[0] != pair[1]]


def names_at(sites, kind, number):
    """Return a dict from the keys at a site to their names."""
    wishes = sites.wishes(kind, number)
    return {key: wishes[key][0][0] for key in wishes}


def parting_store(group, way):
    """Return a store for which the answers of two questions that part at a way are not equal."""
    kind, numbers = group[0].question.schema.root, (0, 0)
    steps = []
    for key, member in way:
        asked = [sites.wishes(kind, number) for sites, number in zip(group, numbers)]
        steps.append((asked[0][key][0][0], member))
        kind, numbers = member, tuple([wishes[key][1] for wishes in asked])
    store, last = store_along(group[0].question.schema, steps)
    for names in unlike_names(group, kind, numbers):
        # Two fields may have equal values, but only one of them fails. Otherwise the data show it by themselves.
        if names[0] and names[1]:
            return store.with_value(last, names[0], FAIL)
    return store
