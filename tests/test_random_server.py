"""Points [13.1] to [13.6] on servers that are used at random, against a plain model of them."""

import copy
import random
import unittest

from nestedwishes.answers import Store
from nestedwishes.errors import BadStore, Clash, WishError
from nestedwishes.server import Server, tried
from tests import oracle, oracle_answers
from tests.drawn import leading_rights, random_rights, random_things, random_value, random_world, schema_of, sure_world
from tests.test_random_answers import WRONG_VALUES

NAMES = ["a", "b", "c", "d", "e", "f", "g", "h", "i", "j", "k", "m", "n", "o"]


class Left(Exception):
    """Leaves a block."""


class Model:
    """A server and what should be in it."""

    def __init__(self, test, draw, world, things, first, rights):
        self.test, self.draw, self.world, self.first, self.rights = test, draw, world, first, rights
        self.schema = schema_of(world)
        self.store = Store(self.schema, things, first)
        self.server = Server(self.store)
        self.things = copy.deepcopy(things)
        self.watches = {}
        self.counts = {}

    def answer(self, bare, truth):
        case = (self.world, bare[1], bare[0], self.things, self.first, truth)
        return oracle_answers.data(*case), oracle_answers.faults(*case)

    def check(self):
        self.test.assertEqual(len(self.server), len(self.things))
        self.test.assertEqual(self.server.watched(), sorted(self.watches))
        self.test.assertTrue(self.server.snapshot() == Store(self.schema, self.things, self.first))
        for name in NAMES:
            self.test.assertIs(name in self.server, name in self.things)
        for name, (_, fields) in self.things.items():
            for field, value in fields.items():
                self.test.assertEqual(self.server[name, field], value)

    def spot(self):
        name = self.draw.choice(sorted(self.things))
        return name, self.draw.choice(sorted(self.things[name][1]))

    def shape(self, name, field):
        return self.world["kinds"][self.things[name][0]][1][field]

    def value(self, name, field):
        """A value that may be wrong."""
        if self.draw.random() < 0.2:
            return self.draw.choice(WRONG_VALUES)
        kinds = {other: kind for other, (kind, _) in self.things.items()}
        return random_value(self.draw, self.world, kinds, self.shape(name, field), 0.2)

    def set_value(self):
        name, field = self.spot()
        value = self.value(name, field)
        if oracle_answers.is_right(self.world, self.things, self.shape(name, field), value):
            self.server[name, field] = copy.deepcopy(value)
            self.things[name][1][field] = value
            return "set"
        with self.test.assertRaises(BadStore) as raised:
            self.server[name, field] = value
        self.test.assertEqual((raised.exception.thing, raised.exception.field), (name, field))
        return "not set"

    def drop(self):
        name, field = self.spot()
        self.test.assertIsNone(self.server.drop(name, field))
        self.things[name][1][field] = None
        return "dropped"

    def add(self):
        free = [name for name in NAMES if name not in self.things]
        names = self.draw.sample(free, min(len(free), self.draw.choice([0, 1, 1, 2])))
        if self.draw.random() < 0.1:
            names.append(self.draw.choice(NAMES + ["Bad", ""]))
        kinds = {name: kind for name, (kind, _) in self.things.items()}
        new = {name: self.draw.choice(sorted(self.world["kinds"])) for name in names}
        things = {}
        for name, kind in new.items():
            fields = {field: random_value(self.draw, self.world, {**kinds, **new}, shape, 0.2)
                      for field, shape in self.world["kinds"][kind][1].items()}
            things[name] = (kind, fields)
        if things and self.draw.random() < 0.2:
            name = self.draw.choice(sorted(things))
            things[name][1][self.draw.choice(sorted(things[name][1]))] = self.draw.choice(WRONG_VALUES)
        wrong = self.wrong_added(things)
        same = self.server
        try:
            self.server += copy.deepcopy(things)
            self.test.assertIsNone(wrong)
            self.things.update(things)
        except BadStore as error:
            self.test.assertEqual((error.thing, error.field), wrong)
        self.test.assertIs(self.server, same)
        return "added" if wrong is None else "not added"

    def wrong_added(self, things):
        """The thing and the field of the first reason against adding things, or None."""
        if not all(map(oracle.is_name, things)) or len({*things, *self.things}) > 12:
            return "", ""
        old = sorted(set(things) & set(self.things))
        if old:
            return old[0], ""
        pairs = [(name, field) for name in sorted(things) for field in sorted(things[name][1])
                 if not oracle_answers.is_right(self.world, {**self.things, **things},
                                                self.world["kinds"][things[name][0]][1][field], things[name][1][field])]
        return pairs[0] if pairs else None

    def watch(self):
        name = self.draw.choice(["w", "x", "y"])
        rows, parts, question = self.draw.choice(self.rights)
        truth = self.draw.choice(oracle.truths(question.flags()))
        clashes = oracle.form_and_clashes(self.world, parts, rows, self.world["root"], truth)[1]
        if clashes:
            with self.test.assertRaises(Clash) as raised:
                self.server.watch(name, question, truth)
            self.test.assertEqual(raised.exception.way, min(clashes))
            return "not watched"
        self.test.assertIsNone(self.server.watch(name, question, truth))
        self.watches[name] = ((rows, parts), truth, self.answer((rows, parts), truth))
        return "watched"

    def unwatch(self):
        if not self.watches:
            return "nothing"
        name = self.draw.choice(sorted(self.watches))
        del self.watches[name]
        self.test.assertIsNone(self.server.unwatch(name))
        return "unwatched"

    def changed(self):
        now = {name: (bare, truth, self.answer(bare, truth)) for name, (bare, truth, _) in self.watches.items()}
        expected = sorted(name for name in now if now[name][2] != self.watches[name][2])
        self.test.assertEqual(self.server.changed(), expected)
        self.watches = now
        return f"changed {min(len(expected), 2)}"

    def attempt(self):
        """`ask` and `tried`."""
        rows, parts, question = self.draw.choice(self.rights)
        truth = self.draw.choice(oracle.truths(question.flags()))
        changes = []
        for _ in range(self.draw.choice([0, 1, 2, 3])):
            spot = self.spot()
            changes.append((*spot, self.value(*spot)))
        wrong = [(name, field) for name, field, value in changes
                 if not oracle_answers.is_right(self.world, self.things, self.shape(name, field), value)]
        before = self.things
        self.things = copy.deepcopy(before)
        for name, field, value in changes:
            self.things[name][1][field] = value
        clashes = [] if wrong else oracle_answers.clash_ways(self.world, parts, rows, self.things, self.first, truth)
        try:
            given = tried(self.server, changes, question, truth)
            self.test.assertEqual((wrong, clashes), ([], []))
            self.test.assertEqual(given, self.answer((rows, parts), truth))
            sort = "tried"
        except BadStore as error:
            self.test.assertEqual((error.thing, error.field), wrong[0])
            sort = "not tried"
        except Clash as error:
            self.test.assertEqual((wrong, error.way), ([], min(clashes)))
            sort = "clash"
        self.things = before
        return sort

    def block(self, depth):
        before = copy.deepcopy((self.things, self.watches))
        end = self.draw.choice(["well", "error"])
        try:
            with self.server as inner:
                self.test.assertIs(inner, self.server)
                self.use(depth + 1)
                if end == "error":
                    raise Left
        except Left:
            self.test.assertEqual(end, "error")
        self.things, self.watches = before
        return f"block {end} {depth}"

    def use(self, depth):
        for _ in range(self.draw.choice([1, 3, 6, 9])):
            calls = [*[self.set_value] * 6, self.drop, self.add, self.watch, self.watch,
                     self.unwatch, self.changed, self.attempt]
            if depth < 3 and self.draw.random() < 0.2:
                sort = self.block(depth)
            else:
                sort = self.draw.choice(calls)()
            self.counts[sort] = self.counts.get(sort, 0) + 1
            self.check()


class RandomServers(unittest.TestCase):
    def test_servers(self):
        counts = {}
        for seed in range(300):
            draw = random.Random(seed)
            world = sure_world(draw) if seed % 2 else random_world(draw)
            rights = leading_rights(draw, world, 4, 0.1) if seed % 2 else random_rights(draw, world, 4)
            things, first = random_things(draw, world)
            model = Model(self, draw, world, things, first, rights)
            for _ in range(4):
                model.use(0)
            self.assertTrue(model.store == Store(model.schema, things, first))
            for sort, count in model.counts.items():
                counts[sort] = counts.get(sort, 0) + count
        for sort in ("set", "not set", "dropped", "added", "not added", "watched", "not watched", "unwatched", "changed 0",
                     "changed 1", "changed 2", "tried", "not tried", "clash", "block well 0", "block error 0", "block well 1",
                     "block error 1", "block well 2", "block error 2"):
            self.assertGreater(counts.get(sort, 0), 1, counts)

    def test_a_refused_value_in_a_block_leaves_it(self):
        for seed in range(30):
            draw = random.Random(seed)
            world = random_world(draw)
            things, first = random_things(draw, world)
            model = Model(self, draw, world, things, first, random_rights(draw, world, 1))
            name, field = model.spot()
            with self.assertRaises(WishError):
                with model.server as inner:
                    inner.drop(name, field)
                    inner[name, field] = {"no": "value"}
            model.check()


if __name__ == "__main__":
    unittest.main()
