"""Points [11.1] to [11.5] on many questions, against the second reading in tests/oracle_told.py and by answers."""

import random
import unittest

from nestedwishes.alike import alike
from nestedwishes.answers import Store, answer
from nestedwishes.errors import BadQuestion, Clash, Unclear, WishError
from nestedwishes.told import apart, told
from tests import oracle_answers, oracle_told
from tests.drawn import (
    clean_things, clean_value, leading_rights, marked, random_rights, random_world, schema_of, steady_world, sure_world, varied)
from tests.oracle import truths


def own(question, flags):
    """Those of the flags that the question has."""
    return {flag: flags[flag] for flag in question.flags()}


def data_of(question, store, flags):
    data, faults = answer(question, store, own(question, flags))
    assert faults == []
    return data


def common(one, other):
    return sorted({*one.flags(), *other.flags()})


class RandomTold(unittest.TestCase):
    def worlds(self, seeds, wanted):
        """Worlds with questions over them. The questions lead far, except for every third world."""
        for seed in seeds:
            draw = random.Random(seed)
            if seed % 3:
                world = sure_world(draw) if seed % 3 == 1 else steady_world(draw)
                yield draw, world, leading_rights(draw, world, wanted)
            else:
                world = random_world(draw)
                yield draw, world, random_rights(draw, world, wanted)

    def pairs(self, seeds, wanted, missing):
        """Pairs of tuples (rows, parts, question), of which the second one mostly tells the kinds."""
        for draw, world, rights in self.worlds(seeds, wanted):
            for one in rights:
                other = one
                for _ in range(draw.choice([0, 1, 1, 2, 3])):
                    other = varied(draw, world, *other[:2])
                if draw.random() < 0.3:
                    other = draw.choice(rights)
                if draw.random() < 0.3:
                    one = marked(draw, world, *one[:2], 0.5) or one
                other = marked(draw, world, *other[:2], missing)
                if other is not None:
                    yield draw, world, one, other

    def outcome(self, call, *arguments):
        try:
            return call(*arguments)
        except WishError as error:
            return type(error), error.way

    def expected(self, world, one, other, flags):
        """What `told` returns, or the class and the way of its error."""
        for rows, parts, _ in (one, other):
            clashes = oracle_answers.oracle.form_and_clashes(world, parts, rows, world["root"], flags)[1]
            if clashes:
                return Clash, min(clashes)
        way = oracle_told.unclear(world, other[:2], flags)
        if way is not None:
            return Unclear, way
        return oracle_told.told(world, one[:2], other[:2], flags)

    def test_told_and_apart(self):
        counts = {}
        for draw, world, one, other in self.pairs(range(5000, 5400), 4, 0.1):
            for flags in truths(common(one[2], other[2]))[-2:]:
                expected = self.expected(world, one, other, flags)
                given = self.outcome(told, one[2], other[2], flags)
                self.assertEqual(given, expected)
                sort = expected if isinstance(expected, bool) else expected[0]
                counts[sort] = counts.get(sort, 0) + 1
                stores = self.outcome(apart, one[2], other[2], flags)
                if isinstance(expected, tuple):
                    self.assertEqual(stores, expected)
                elif expected:
                    self.assertIsNone(stores)
                    self.assert_tells(draw, world, one[2], other[2], flags)
                else:
                    self.assert_apart(world, one[2], other[2], flags, stores)
        for sort in (True, False, Clash, Unclear):
            self.assertGreater(counts.get(sort, 0), 25, counts)

    def assert_apart(self, world, one, other, flags, stores):
        self.assertIs(type(stores), tuple)
        self.assertEqual(len(stores), 2)
        for store in stores:
            self.assertIs(type(store), Store)
            self.assertTrue(store.schema == one.schema)
            self.assertLessEqual(len(store.things()), 12)
            things = {name: (store.kind_of(name), {field: store.value(name, field) for field in
                                                   one.schema.fields(store.kind_of(name))}) for name in store.things()}
            self.assertTrue(oracle_told.is_clean(world, things))
        self.assertEqual(*(data_of(other, store, flags) for store in stores))
        self.assertNotEqual(*(data_of(one, store, flags) for store in stores))

    def assert_tells(self, draw, world, one, other, flags):
        """Stores that differ in some values and give equal data of `other` give equal data of `one`."""
        things, first = clean_things(draw, world)
        kinds = {name: kind for name, (kind, _) in things.items()}
        store = Store(schema_of(world), things, first)
        before, shown = data_of(one, store, flags), data_of(other, store, flags)
        for _ in range(8):
            changed = store
            for _ in range(draw.choice([1, 1, 2, 5])):
                name = draw.choice(sorted(things))
                field = draw.choice(sorted(things[name][1]))
                value = clean_value(draw, world, kinds, world["kinds"][kinds[name]][1][field])
                changed = changed.with_value(name, field, value)
            if data_of(other, changed, flags) == shown:
                self.assertEqual(data_of(one, changed, flags), before)

    def clear_ones(self, draw, world, rights):
        """The questions, marked, that tell the kinds for all truths, and have no clash."""
        found = []
        for rows, parts, _ in rights:
            other = marked(draw, world, rows, parts)
            if other is not None:
                results = [self.outcome(told, other[2], other[2], flags) for flags in truths(other[2].flags())]
                if all(isinstance(result, bool) for result in results):
                    # Each question that tells the kinds tells itself.
                    self.assertTrue(all(results))
                    found.append(other)
        return found

    def test_laws(self):
        counts = {"chains": 0, "sums": 0, "alike": 0}
        for draw, world, rights in self.worlds(range(6000, 6100), 3):
            more = [varied(draw, world, *right[:2]) for right in rights for _ in range(2)]
            clear = [found[2] for found in self.clear_ones(draw, world, rights + more)]
            names = sorted({flag for question in clear for flag in question.flags()})
            if len(names) > 3:
                continue
            flags = draw.choice(truths(names))
            tells = {}
            for at, one in enumerate(clear):
                for to, other in enumerate(clear):
                    tells[at, to] = told(other, one, {flag: flags[flag] for flag in common(one, other)})
            for at in range(len(clear)):
                for to in range(len(clear)):
                    for last in range(len(clear)):
                        if tells[at, to] and tells[to, last]:
                            counts["chains"] += len({at, to, last}) == 3
                            self.assertTrue(tells[at, last])
                    if alike(clear[at], clear[to]):
                        counts["alike"] += at != to
                        self.assertEqual([tells[at, last] for last in range(len(clear))],
                                         [tells[to, last] for last in range(len(clear))])
                        self.assertEqual([tells[last, at] for last in range(len(clear))],
                                         [tells[last, to] for last in range(len(clear))])
                    counts["sums"] += self.assert_sum(clear[at], clear[to], flags)
        self.assertGreater(min(counts.values()), 15, counts)

    def assert_sum(self, one, other, flags):
        """The sum of two questions tells both of them, if there is one and it has no clash."""
        try:
            both = one + other
            results = [told(part, both, own(both, flags)) for part in (one, other)]
        except (BadQuestion, Clash):
            return False
        except WishError as error:
            self.assertNotIsInstance(error, Unclear)
            return False
        self.assertEqual(results, [True, True])
        return one != other


if __name__ == "__main__":
    unittest.main()
