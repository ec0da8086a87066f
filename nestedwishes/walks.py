"""Walks through the things of a store, along everything that a question asks of them."""

from nestedwishes.errors import Clash
from nestedwishes.shapes import LEAVES, is_sure
from nestedwishes.store_checks import FAIL


class Walk:
    """A way through a store, with what was found on it: data, ways of faults and of clashes, and what was read."""

    def __init__(self, sites, store):
        self.sites = sites
        self.store = store
        self.data = None
        self.fault_ways = []
        self.clash_ways = []
        # Its keys are the pairs (thing, field).
        self.read_pairs = {}

    def data_of(self, thing, number, way):
        """Return the data of a thing for the rows with this number, or None if it is wiped."""
        kind = self.store.kind_of(thing)
        wishes = self.sites.wishes(kind, number)
        data = {}
        wiped = False
        for key in wishes:
            names, below = wishes[key]
            if len(names) > 1:
                self.clash_ways.append(way + (key,))
            elif names[0] == "":
                data[key] = kind
            else:
                self.read_pairs[thing, names[0]] = True
                shape = self.store.schema.shape_of(kind, names[0])
                value = self.store.value(thing, names[0])
                data[key] = self.completed(shape, value, below, way + (key,))
                wiped = wiped or rises_from(shape, data[key])
        if wiped:
            return None
        return data

    def completed(self, shape, value, number, way):
        """Return the completed value of a shape."""
        if value is None or value == FAIL:
            if value is not None or is_sure(shape):
                self.fault_ways.append(way)
            return None
        if is_sure(shape):
            return self.completed(shape[1], value, number, way)
        if isinstance(shape, tuple):
            return self.completed_items(shape[1], value, number, way)
        if shape in LEAVES:
            return value
        return self.data_of(value, number, way)

    def completed_items(self, shape, items, number, way):
        """Return the list of the completed items, or None if one of them rises."""
        found = [self.completed(shape, items[index], number, way + (index,)) for index in range(len(items))]
        if any([rises_from(shape, item) for item in found]):
            return None
        return found


def rises_from(shape, result):
    """Tell if a completed value makes the value around it empty."""
    return result is None and is_sure(shape)


def walked(sites, store):
    """Return the Walk from the first thing on, or raise Clash."""
    walk = Walk(sites, store)
    walk.data = walk.data_of(store.first, 0, ())
    if walk.clash_ways:
        raise Clash(min(walk.clash_ways))
    return walk
