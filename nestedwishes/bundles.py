"""Bundles: plain forms that see the same thing, looked at together.

A bundle is written as a kind and the ascending tuple of the numbers that its rows have in Sites. A number stands in it
once for each of its forms, because each form has keys of its own.
"""

from nestedwishes.entries import members_below
from nestedwishes.shapes import MOST_WRAPPERS, lists_in


def asked_names(sites, kind, numbers):
    """Return a dict from each name in a bundle to the ascending tuple of the numbers of the rows below its keys."""
    found = {}
    for number in numbers:
        wishes = sites.wishes(kind, number)
        for key in wishes:
            names, below = wishes[key]
            found.setdefault(names[0], []).append(below)
    return {name: tuple(sorted(found[name])) for name in found}


class Bundles:
    """The bundle of a whole plain form and all bundles below it, each one once and behind those below it."""

    def __init__(self, sites):
        self.sites = sites
        self.known_indexes = {}
        # For each bundle a tuple (counts, fields): how many of its keys stand for leaves and for names of kinds inside
        # of 0, 1, .. lists; and for each field that leads to things a tuple (name, lists, below), where the tuples
        # (kind, index) tell the bundles below.
        self.contents = []
        self.index_of(sites.question.schema.root, (0,))

    def index_of(self, kind, numbers):
        """Return the index of a bundle."""
        if (kind, numbers) not in self.known_indexes:
            content = self.content_of(kind, numbers)
            self.known_indexes[kind, numbers] = len(self.contents)
            self.contents.append(content)
        return self.known_indexes[kind, numbers]

    def content_of(self, kind, numbers):
        """Return the tuple (counts, fields) of a bundle."""
        schema = self.sites.question.schema
        counts = [0] * (MOST_WRAPPERS + 1)
        fields = []
        asked = asked_names(self.sites, kind, numbers)
        counts[0] = len(asked.pop("", ()))
        for name in sorted(asked):
            lists = lists_in(schema.shape_of(kind, name))
            kinds = members_below(schema, kind, name)
            if kinds is None:
                counts[lists] += len(asked[name])
            else:
                fields.append((name, lists, [(member, self.index_of(member, asked[name])) for member in kinds]))
        return counts, fields
