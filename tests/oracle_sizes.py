"""The second reading goes on: sizes of data, over whole plain forms. A growth is a dict from powers to coefficients."""

import itertools

from tests.oracle import LEAVES, members, shapes, target
from tests.oracle_answers import opened


def lists_of(world, kind, field):
    return opened(shapes(world, kind)[field])[0].count("list")


def fields_of(world, kind, bundle):
    """A dict from each field for things in a list of forms to a dict from the members to the bundles below."""
    found = {}
    for form in bundle:
        for name, below in form.values():
            if below is not None:
                inner = found.setdefault(name, {member: [] for member in members(world, target(world, kind, name))})
                for member in inner:
                    inner[member].append(below[member])
    return found


def own_growth(world, kind, bundle):
    """The growth of the leaves and kind markers of a bundle."""
    growth = {}
    for form in bundle:
        for name, _ in form.values():
            if name == "" or target(world, kind, name) in LEAVES:
                power = lists_of(world, kind, name) if name else 0
                growth[power] = growth.get(power, 0) + 1
    return growth


def value_of(growth, items):
    return sum(count * items ** power for power, count in growth.items())


def greatest(world, kind, bundle, items):
    size = value_of(own_growth(world, kind, bundle), items)
    for field, below in fields_of(world, kind, bundle).items():
        size += items ** lists_of(world, kind, field) * max(greatest(world, other, below[other], items) for other in below)
    return size


def count_choices(world, kind, bundle):
    many = 1
    for below in fields_of(world, kind, bundle).values():
        many *= sum(count_choices(world, other, inner) for other, inner in below.items())
    return many


def choices(world, kind, bundle):
    """All choices of a bundle."""
    fields = fields_of(world, kind, bundle)
    several = [[(field, (other, choice)) for other, inner in below.items() for choice in choices(world, other, inner)]
               for field, below in fields.items()]
    return [dict(pairs) for pairs in itertools.product(*several)]


def growth_of(world, kind, bundle, choice):
    """The growth of a choice, or None if it is none for this bundle."""
    fields = fields_of(world, kind, bundle)
    if type(choice) is not dict or set(choice) != set(fields):
        return None
    growth = own_growth(world, kind, bundle)
    for field, below in fields.items():
        other, inner = choice[field]
        if type(choice[field]) is not tuple or other not in below:
            return None
        more = growth_of(world, other, below[other], inner)
        if more is None:
            return None
        for power, count in more.items():
            power += lists_of(world, kind, field)
            growth[power] = growth.get(power, 0) + count
    return growth


def coefficients(growth):
    return tuple(growth.get(power, 0) for power in range(max(growth, default=-1) + 1))


def late(growth):
    """What orders growths by their values for many items."""
    return len(coefficients(growth)), coefficients(growth)[::-1]


def final(world, kind, bundle):
    """The growth that is greatest for many items, found field by field."""
    growth = own_growth(world, kind, bundle)
    for field, below in fields_of(world, kind, bundle).items():
        best = max((final(world, other, inner) for other, inner in below.items()), key=late)
        for power, count in best.items():
            power += lists_of(world, kind, field)
            growth[power] = growth.get(power, 0) + count
    return growth


def settled(world, kind, bundle):
    """The least number from which on the greatest size is the value of `final`, searched upwards with every number."""
    growth = final(world, kind, bundle)
    least = 0
    for items in range(greatest(world, kind, bundle, 1) + 3):
        if greatest(world, kind, bundle, items) != value_of(growth, items):
            least = items + 1
    return least
