"""Stores of things, and answers to questions about them."""

from nestedwishes.errors import NoField, NoThing, UnlikeSchemas
from nestedwishes.names import is_key
from nestedwishes.sites import Sites
from nestedwishes.store_checks import check_store, copied
from nestedwishes.truths import check_flags
from nestedwishes.walks import walked


class Store:
    """Things of the kinds of a schema, with the values of their fields, and the thing that comes first."""

    def __init__(self, schema, things, first):
        check_store(schema, things, first)
        self.schema = schema
        self.first = first
        self.thing_table = {name: (kind, copied_fields(fields)) for name, (kind, fields) in things.items()}

    def __eq__(self, other):
        return (isinstance(other, Store) and self.schema == other.schema and self.thing_table == other.thing_table
                and self.first == other.first)

    def things(self):
        """Return the names of the things, ascending."""
        return sorted(self.thing_table)

    def kind_of(self, thing):
        """Return the kind of a thing."""
        if not is_key(thing, self.thing_table):
            raise NoThing(thing)
        return self.thing_table[thing][0]

    def fields_with(self, thing, field):
        """Return the dict of the values of a thing that has this field."""
        kind = self.kind_of(thing)
        fields = self.thing_table[thing][1]
        if not is_key(field, fields):
            raise NoField(kind, field)
        return fields

    def value(self, thing, field):
        """Return the value of a field of a thing."""
        return copied(self.fields_with(thing, field)[field])

    def with_value(self, thing, field, value):
        """Return a store in which a field of a thing has another value."""
        fields = {**self.fields_with(thing, field), field: value}
        return Store(self.schema, {**self.thing_table, thing: (self.kind_of(thing), fields)}, self.first)


def copied_fields(fields):
    """Return a copy of a dict of values."""
    return {field: copied(fields[field]) for field in fields}


def answer(question, store, flags):
    """Return the data that a question gives for a store, and the ways of its faults, ascending."""
    check_schemas(question, store)
    prepared = Prepared(question, flags)
    return prepared(store)


def reads(question, store, flags):
    """Return the pairs (thing, field) that the answer reads, ascending."""
    check_schemas(question, store)
    check_flags(question.flags(), flags)
    walk = walked(Sites(question, flags), store)
    return sorted(walk.read_pairs)


def check_schemas(question, store):
    """Raise UnlikeSchemas if a question cannot be asked of a store."""
    if question.schema != store.schema:
        raise UnlikeSchemas("the question and the store have different schemas")


class Prepared:
    """A question with its flags, which answers for one store after the other."""

    def __init__(self, question, flags):
        check_flags(question.flags(), flags)
        self.sites = Sites(question, flags)
        self.answered = 0

    def __call__(self, store):
        check_schemas(self.sites.question, store)
        walk = walked(self.sites, store)
        self.answered += 1
        return walk.data, sorted(walk.fault_ways)
