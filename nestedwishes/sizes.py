"""How large the data of answers can be, and how they grow with the number of items in lists."""

from nestedwishes.bounds import check_number
from nestedwishes.bundles import Bundles
from nestedwishes.errors import BadNumber
from nestedwishes.names import is_plain_int
from nestedwishes.shapes import MOST_WRAPPERS
from nestedwishes.sites import Sites, check_clashes
from nestedwishes.truths import check_flags

MOST_COEFFICIENTS = 40
MOST_POWER = 20


class Growth:
    """A polynomial in the number of items. The coefficient of the power 0 comes first."""

    def __init__(self, coefficients):
        if not is_coefficients(coefficients):
            raise BadNumber("not a tuple of so many integers from 0 on")
        self.coefficients = coefficients[:terms_of(coefficients)]

    def __call__(self, items):
        check_items(items)
        total = 0
        for coefficient in self.coefficients[::-1]:
            total = total * items + coefficient
        return total

    def __add__(self, other):
        many = max(len(self.coefficients), len(other.coefficients))
        return Growth(tuple([coefficient_at(self, power) + coefficient_at(other, power) for power in range(many)]))

    def __lshift__(self, power):
        check_number(power, MOST_POWER)
        return Growth((0,) * power + self.coefficients)

    def __eq__(self, other):
        return isinstance(other, Growth) and self.coefficients == other.coefficients

    @property
    def degree(self):
        """The greatest power with a coefficient that is not 0, or None if there is none."""
        if len(self.coefficients) == 0:
            return None
        return len(self.coefficients) - 1


def is_coefficients(coefficients):
    """Tell if a value is a tuple of not too many integers from 0 on."""
    if not isinstance(coefficients, tuple) or len(coefficients) > MOST_COEFFICIENTS:
        return False
    return all([is_plain_int(coefficient) and coefficient >= 0 for coefficient in coefficients])


def terms_of(coefficients):
    """Return the number of coefficients without the zeros at the end."""
    return max([power + 1 for power in range(len(coefficients)) if coefficients[power] != 0], default=0)


def coefficient_at(growth, power):
    """Return the coefficient of a power, also if it is greater than the degree."""
    if power < len(growth.coefficients):
        return growth.coefficients[power]
    return 0


def check_items(items):
    """Raise BadNumber if a value is not a number of items."""
    check_number(items, 10 ** 30)


def greatest(question, flags, *, items=1):
    """Return the greatest size of the data for stores whose lists have at most so many items."""
    bundles = asked_bundles(question, flags, items)
    return all_sizes(bundles, items)[-1]


def worst(question, flags, *, items=1):
    """Return a choice of kinds, for each field that leads to things, which reaches the greatest size."""
    bundles = asked_bundles(question, flags, items)
    return best_choice(bundles, all_sizes(bundles, items), len(bundles.contents) - 1)


def final(question, flags):
    """Return the growth that is greatest from some number of items on."""
    return all_growths(asked_bundles(question, flags, 1))[-1]


def settled(question, flags):
    """Return the least number of items from which on the greatest size is the value of `final`."""
    bundles = asked_bundles(question, flags, 1)
    growth = all_growths(bundles)[-1]
    # With so many items, and with more, no other growth can be greater than this one.
    items = 1 + all_sizes(bundles, 1)[-1]
    # The sizes may be equal for fewer items, too, and differ again in between, so that the search goes downwards.
    while items > 0 and all_sizes(bundles, items - 1)[-1] == growth(items - 1):
        items -= 1
    return items


def asked_bundles(question, flags, items):
    """Return the bundles of a question, or raise what is wrong with the arguments."""
    check_flags(question.flags(), flags)
    check_items(items)
    sites = Sites(question, flags)
    check_clashes(sites)
    return Bundles(sites)


def all_sizes(bundles, items):
    """Return the greatest size of each bundle."""
    powers = [1]
    for turn in range(MOST_WRAPPERS):
        powers.append(powers[-1] * items)
    sizes = []
    for counts, fields in bundles.contents:
        size = sum([count * worth for count, worth in zip(counts, powers)])
        for name, lists, below in fields:
            size += powers[lists] * max([sizes[index] for kind, index in below])
        sizes.append(size)
    return sizes


def best_choice(bundles, sizes, index):
    """Return a choice for a bundle that has the greatest size."""
    choice = {}
    for name, lists, below in bundles.contents[index][1]:
        size, kind, best = max([(sizes[inner], member, inner) for member, inner in below])
        choice[name] = (kind, best_choice(bundles, sizes, best))
    return choice


def all_growths(bundles):
    """Return the growth of each bundle that is greatest from some number of items on."""
    growths = []
    for counts, fields in bundles.contents:
        growth = Growth(tuple(counts))
        for name, lists, below in fields:
            best = max([growths[index] for kind, index in below], key=late_order)
            growth = growth + (best << lists)
        growths.append(growth)
    return growths


def late_order(growth):
    """Return what orders growths by their values for numbers of items that are great enough."""
    return len(growth.coefficients), growth.coefficients[::-1]
