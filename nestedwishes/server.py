"""Servers: things that can change, and questions that are watched meanwhile."""

from nestedwishes.answers import Prepared, Store, answer, check_schemas
from nestedwishes.errors import BadName, NoWatch
from nestedwishes.names import is_key, is_name
from nestedwishes.sites import check_clashes
from nestedwishes.store_checks import check_new_names


class Earlier:
    """What a server had at the beginning of a block, and the same for the block around it, or None."""

    def __init__(self, store, watches, outer):
        self.store = store
        self.watches = watches
        self.outer = outer


class Server:
    """Things that can change, and the watched questions with their kept answers."""

    def __init__(self, store):
        # The store and the dict of watches are replaced, but never changed, so that a block can go back to earlier
        # ones. A watch is a tuple of a Prepared and its kept answer.
        self.store = store
        self.watches = {}
        self.earlier = None

    def __getitem__(self, at):
        thing, field = at
        return self.store.value(thing, field)

    def __setitem__(self, at, worth):
        thing, field = at
        self.store = self.store.with_value(thing, field, worth)

    def __iter__(self):
        raise TypeError("a server is not iterated; take the things of its snapshot")

    def __contains__(self, thing):
        return is_key(thing, self.store.thing_table)

    def __len__(self):
        return len(self.store.thing_table)

    def __iadd__(self, things):
        table = self.store.thing_table
        check_new_names(list(table), things)
        # The things of before are right, so that the first reason against the new store is one against the new things.
        self.store = Store(self.store.schema, {**table, **things}, self.store.first)
        return self

    def __enter__(self):
        self.earlier = Earlier(self.store, self.watches, self.earlier)
        return self

    def __exit__(self, kind, value, trace):
        self.store = self.earlier.store
        self.watches = self.earlier.watches
        self.earlier = self.earlier.outer

    def drop(self, thing, field):
        """Make the value of a field empty."""
        self[thing, field] = None

    def snapshot(self):
        """Return the store of now."""
        return self.store

    def ask(self, question, flags):
        """Return the answer for the store of now."""
        return answer(question, self.store, flags)

    def watch(self, name, question, flags):
        """Keep a question and its answer of now under a name."""
        if not is_name(name):
            raise BadName(name)
        check_schemas(question, self.store)
        prepared = Prepared(question, flags)
        # A question that clashes for some store could not be answered after every change.
        check_clashes(prepared.sites)
        self.watches = {**self.watches, name: (prepared, prepared(self.store))}

    def unwatch(self, name):
        """Keep the question under a name no longer."""
        if not is_key(name, self.watches):
            raise NoWatch(name)
        self.watches = {other: self.watches[other] for other in self.watches if other != name}

    def watched(self):
        """Return the names of the watched questions, ascending."""
        return sorted(self.watches)

    def changed(self):
        """Return the names of the questions whose answers are not the kept ones, ascending, and keep those of now."""
        found = []
        watches = {}
        for name in sorted(self.watches):
            prepared, kept = self.watches[name]
            now = prepared(self.store)
            if now != kept:
                found.append(name)
            watches[name] = (prepared, now)
        self.watches = watches
        return found


def tried(server, changes, question, flags):
    """Return the answer that a server would give after changes (thing, field, value), without changing it."""
    with server as inner:
        for thing, field, value in changes:
            inner[thing, field] = value
        return inner.ask(question, flags)
