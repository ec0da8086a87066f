"""Sites: a kind, and the number of the rows that are asked of things of this kind under one truth.

Many ways lead to one site, and from there on they go on alike, so that it is enough to look at each site once. Rows
have numbers because they may be nested too deeply to be looked up in a dict.
"""

from nestedwishes.entries import members_below, wishes_of
from nestedwishes.errors import Clash


class Sites:
    """What a question asks at each site under one truth. The rows of the question itself have the number 0."""

    def __init__(self, question, truth):
        self.question = question
        self.truth = dict(truth)
        self.different = [question.rows]
        self.known = {}
        self.known_clashes = {}

    def number_of(self, rows):
        """Return the number of rows."""
        if rows not in self.different:
            self.different.append(rows)
        return self.different.index(rows)

    def wishes(self, kind, number):
        """Return a dict from each key to its different names, ascending, and the number of its rows."""
        if (kind, number) not in self.known:
            found = wishes_of(self.question, self.different[number], kind, self.truth)
            self.known[kind, number] = {key: (names, self.number_of(rows)) for key, (names, rows) in found.items()}
        return self.known[kind, number]

    def least_clash(self, kind, number):
        """Return the least way of keys from a site to a key that clashes, or None if there is none."""
        if (kind, number) not in self.known_clashes:
            self.known_clashes[kind, number] = self.clash_from(kind, number)
        return self.known_clashes[kind, number]

    def clash_from(self, kind, number):
        """Find out what least_clash returns."""
        wishes = self.wishes(kind, number)
        for key in sorted(wishes):
            names, below = wishes[key]
            if len(names) > 1:
                return (key,)
            kinds = members_below(self.question.schema, kind, names[0])
            if kinds is not None:
                ways = [self.least_clash(member, below) for member in kinds]
                found = [way for way in ways if way is not None]
                if found:
                    return (key,) + min(found)
        return None


def check_clashes(sites):
    """Raise Clash if a key clashes at any depth."""
    way = sites.least_clash(sites.question.schema.root, 0)
    if way is not None:
        raise Clash(way)


def first_level(group):
    """Return what next_level needs to begin with, for a list of Sites over one schema."""
    return {(group[0].question.schema.root, tuple([0 for sites in group])): ()}


def next_level(group, level):
    """Go one step on from all sites of a level, along the keys for things.

    A level is a dict from tuples (kind, numbers), with the number of the rows of each of the group, to the least way
    that leads there. Each key that is asked on the level must have one name, the same one for all of the group.
    """
    schema = group[0].question.schema
    found = {}
    for (kind, numbers), way in level.items():
        asked = [sites.wishes(kind, number) for sites, number in zip(group, numbers)]
        for key in asked[0]:
            kinds = members_below(schema, kind, asked[0][key][0][0])
            if kinds is not None:
                below = tuple([wishes[key][1] for wishes in asked])
                for member in kinds:
                    longer = way + ((key, member),)
                    found[member, below] = min(longer, found.get((member, below), longer))
    return found
