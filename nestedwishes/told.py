"""What the answer to one question tells of the answer to another one."""

from nestedwishes.bundles import asked_names
from nestedwishes.entries import members_below
from nestedwishes.errors import Unclear, UnlikeSchemas
from nestedwishes.samples import sample_names, store_along, unlike_values
from nestedwishes.shapes import is_sure_thing
from nestedwishes.sites import Sites, check_clashes
from nestedwishes.truths import check_flags, common_flags


def told(one, other, flags):
    """Tell if equal data of `other` come with equal data of `one`, for all clean stores."""
    return whole_gap(one, other, flags) is None


def apart(one, other, flags):
    """Return two clean stores with equal data of `other` and unlike data of `one`, or None if there are none."""
    gap = whole_gap(one, other, flags)
    if gap is None:
        return None
    return gap_stores(one.schema, gap)


def whole_gap(one, other, flags):
    """Return the gap that `other` leaves in what it tells of `one`, or None if there is none.

    A gap is a tuple (steps, field, kinds). The steps (field, kind) lead from the first thing to the thing with this
    field, of whose data `other` shows nothing. Two kinds tell that the field leads to exactly one thing and that things
    of these kinds have unlike data. No kinds tell that any two values that look unlike have unlike data.
    """
    if one.schema != other.schema:
        raise UnlikeSchemas("the questions have different schemas")
    check_flags(common_flags(one, other), flags)
    telling = Telling(Sites(one, flags), Sites(other, flags))
    check_clashes(telling.one)
    check_clashes(telling.other)
    check_clear(telling.other)
    return telling.gap(one.schema.root, 0, (0,))


def gap_stores(schema, gap):
    """Return the two stores that differ in the field of a gap alone."""
    steps, field, kinds = gap
    store, last = store_along(schema, steps)
    names = sample_names(schema)
    if kinds:
        values = [names[kind] for kind in kinds]
    else:
        values = unlike_values(schema, schema.shape_of(store.kind_of(last), field), names)
    return tuple([store.with_value(last, field, value) for value in values])


def check_clear(sites):
    """Raise Unclear for the nearest key whose things may be of several kinds, but no kind marker tells of which."""
    # From the sites of one depth to the least way of keys that leads there.
    level = {(sites.question.schema.root, 0): ()}
    while level:
        unclear = []
        found = {}
        for (kind, number), way in level.items():
            wishes = sites.wishes(kind, number)
            for key in wishes:
                names, below = wishes[key]
                longer = way + (key,)
                kinds = members_below(sites.question.schema, kind, names[0]) or []
                if len(kinds) > 1 and not has_marker(sites, kinds, below):
                    unclear.append(longer)
                for member in kinds:
                    found[member, below] = min(longer, found.get((member, below), longer))
        if unclear:
            raise Unclear(min(unclear))
        level = found


def has_marker(sites, kinds, number):
    """Tell if one key puts the name of the kind into the data of things of all these kinds."""
    forms = [sites.wishes(kind, number) for kind in kinds]
    return any([all([key in form and form[key][0] == [""] for form in forms]) for key in forms[0]])


class Telling:
    """Two questions under one truth: what the data of `other` tell of the data of `one`."""

    def __init__(self, one, other):
        self.one = one
        self.other = other
        self.known_gaps = {}
        self.known_data = {}

    def gap(self, kind, number, numbers):
        """Return the gap at a site of `one` that a bundle of `other` leaves, or None if the bundle tells all."""
        place = (kind, number, numbers)
        if place not in self.known_gaps:
            self.known_gaps[place] = self.gap_among(self.one.wishes(kind, number), kind, numbers)
        return self.known_gaps[place]

    def gap_among(self, wishes, kind, numbers):
        """Return the gap of the first of some wishes that a bundle does not tell, or None."""
        seen = asked_names(self.other, kind, numbers)
        for key in sorted(wishes):
            names, below = wishes[key]
            # The name of the kind is told, because the bundle is one for this kind.
            if names[0] != "" and self.field_data(kind, names[0], below) is None:
                gap = self.gap_at(kind, names[0], below, seen)
                if gap is not None:
                    return gap
        return None

    def gap_at(self, kind, name, number, seen):
        """Return the gap of a field without constant data, where a dict tells the rows of each name that is seen."""
        if name not in seen:
            return self.unseen_gap(kind, name, number)
        for member in members_below(self.one.question.schema, kind, name) or []:
            gap = self.gap(member, number, seen[name])
            if gap is not None:
                return with_step(name, member, gap)
        return None

    def unseen_gap(self, kind, name, number):
        """Return the gap of a field without constant data of which nothing is seen."""
        schema = self.one.question.schema
        if not is_sure_thing(schema.shape_of(kind, name)):
            return (), name, ()
        kinds = members_below(schema, kind, name)
        for member in kinds:
            wishes = self.one.wishes(member, number)
            for key in sorted(wishes):
                names, below = wishes[key]
                if names[0] != "" and self.field_data(member, names[0], below) is None:
                    return with_step(name, member, self.unseen_gap(member, names[0], below))
        first = self.constant_data(kinds[0], number)
        unlike = [member for member in kinds if self.constant_data(member, number) != first]
        return (), name, (kinds[0], unlike[0])

    def field_data(self, kind, name, number):
        """Return the data that all values of a field give for rows of `one`, or None if they are not all the same."""
        schema = self.one.question.schema
        if not is_sure_thing(schema.shape_of(kind, name)):
            return None
        found = [self.constant_data(member, number) for member in members_below(schema, kind, name)]
        # If no member has constant data, all of them are None, and so is what is returned.
        if any([data != found[0] for data in found]):
            return None
        return found[0]

    def constant_data(self, kind, number):
        """Return the data that all things of a kind give for rows of `one`, or None if they are not all the same."""
        if (kind, number) not in self.known_data:
            wishes = self.one.wishes(kind, number)
            data = {}
            for key in wishes:
                names, below = wishes[key]
                data[key] = kind
                if names[0] != "":
                    data[key] = self.field_data(kind, names[0], below)
            if any([data[key] is None for key in data]):
                data = None
            self.known_data[kind, number] = data
        return self.known_data[kind, number]


def with_step(field, kind, gap):
    """Return the gap that this one is, seen from a thing whose field leads to the beginning of this one."""
    steps, last, kinds = gap
    return ((field, kind), *steps), last, kinds
