"""Points [8.1] to [10.7] on many questions, against the second reading in tests/oracle_answers.py and by answers."""

import random
import unittest

from nestedwishes.alike import alike, parted
from nestedwishes.answers import Store, answer
from nestedwishes.clashes import clash, written
from nestedwishes.errors import Clash, TooMany
from nestedwishes.risings import held, rises, wipes
from tests import oracle, oracle_answers
from tests.drawn import leading_rights, random_rights, random_things, random_world, schema_of, sure_world, varied


def own(question, flags):
    """Those of the flags that the question has."""
    return {flag: flags[flag] for flag in question.flags()}


def whole_value(world, things, shape, led):
    """A value in which nothing is empty; it leads to the thing `led` if that is not None."""
    if isinstance(shape, tuple) and shape[0] == "sure":
        return whole_value(world, things, shape[1], led)
    if isinstance(shape, tuple):
        return [] if led is None else [whole_value(world, things, shape[1], led)]
    if shape in oracle.LEAVES:
        return {"number": 0, "text": ""}[shape]
    return led or min(name for name in things if things[name][0] in oracle.members(world, shape))


def store_along(world, steps):
    """Things in which steps (field, kind) lead from the first one to the last one, and their names; no value is empty."""
    kinds = [world["root"], *(kind for _, kind in steps)]
    things = {"abcdef"[at]: (kind, {}) for at, kind in enumerate(sorted(world["kinds"]))}
    names = "uvwxyz"[:len(kinds)]
    things.update({name: (kind, {}) for name, kind in zip(names, kinds)})
    for name, (kind, fields) in things.items():
        for field, shape in world["kinds"][kind][1].items():
            at = names.find(name)
            led = names[at + 1] if 0 <= at < len(steps) and steps[at][0] == field else None
            fields[field] = whole_value(world, dict(list(things.items())[:6]), shape, led)
    return things, names


class RandomWays(unittest.TestCase):
    def drawn(self, draw, seed, wanted, mixed=0):
        """A world, and questions over it; every second time one in which they lead far."""
        if seed % 2:
            world = sure_world(draw)
            return world, leading_rights(draw, world, wanted, mixed)
        world = random_world(draw)
        return world, random_rights(draw, world, wanted)

    def pairs(self, seeds, wanted):
        for seed in seeds:
            draw = random.Random(seed)
            world, rights = self.drawn(draw, seed, wanted)
            for rows, parts, question in rights:
                other = (rows, parts, question)
                for _ in range(draw.choice([1, 1, 1, 2, 3])):
                    other = varied(draw, world, *other[:2])
                yield draw, world, (rows, parts, question), other

    def test_parted(self):
        counts = {}
        for draw, world, (rows, parts, one), (other_rows, other_parts, other) in self.pairs(range(600), 4):
            bare = (rows, parts), (other_rows, other_parts)
            way = oracle_answers.first_clash(world, *bare)
            if way is not None:
                for call in (parted, alike):
                    with self.assertRaises(Clash) as raised:
                        call(one, other)
                    self.assertEqual(raised.exception.way, way)
                counts["clashes"] = counts.get("clashes", 0) + 1
                continue
            expected = oracle_answers.parted(world, *bare)
            given = parted(one, other)
            self.assertEqual(alike(one, other), expected is None)
            if expected is None:
                counts["alike"] = counts.get("alike", 0) + 1
                self.assertIsNone(given)
                store = Store(schema_of(world), *random_things(draw, world))
                for truth in oracle_answers.common_truths(*bare):
                    self.assertEqual(answer(one, store, own(one, truth)), answer(other, store, own(other, truth)))
            else:
                flags, way, store = given
                counts[len(way)] = counts.get(len(way), 0) + 1
                self.assertEqual((flags, way), expected)
                self.assertTrue(store.schema == one.schema)
                self.assertNotEqual(answer(one, store, own(one, flags)), answer(other, store, own(other, flags)))
        for sort in ("alike", "clashes", 0, 1, 2):
            self.assertGreater(counts.get(sort, 0), 20, counts)

    def test_clash(self):
        counts = {"none": 0, "written": 0}
        for seed in range(300):
            draw = random.Random(seed)
            world, rights = self.drawn(draw, seed, 6, draw.choice([0.05, 0.1, 0.3]))
            for rows, parts, question in rights:
                expected = oracle_answers.clash(world, rows, parts)
                self.assertEqual(clash(question), expected)
                self.assertEqual(written(question), oracle_answers.written(world, rows, parts))
                if expected is None:
                    counts["none"] += 1
                    counts["written"] += written(question) is not None
                    self.assert_no_clash(draw, world, question)
                else:
                    counts[len(expected[1])] = counts.get(len(expected[1]), 0) + 1
                    self.assertIsNotNone(written(question))
                    self.assert_clash(world, rows, parts, question, expected)
        for sort in ("none", "written", 0, 1, 2):
            self.assertGreater(counts.get(sort, 0), 20, counts)

    def assert_no_clash(self, draw, world, question):
        store = Store(schema_of(world), *random_things(draw, world))
        for truth in oracle.truths(question.flags()):
            answer(question, store, truth)

    def assert_clash(self, world, rows, parts, question, found):
        flags, way, key, _, _ = found
        form = oracle_answers.form_of(world, (rows, parts), flags)
        steps = []
        for step, kind in way:
            steps.append((form[step][0], kind))
            form = form[step][1][kind]
        things, names = store_along(world, steps)
        with self.assertRaises(Clash) as raised:
            answer(question, Store(schema_of(world), things, names[0]), flags)
        self.assertLessEqual(raised.exception.way, self.way_of_data(things, names, steps, way) + (key,))

    def way_of_data(self, things, names, steps, way):
        found = ()
        for at, (key, _) in enumerate(way):
            found += (key, *next(iter(oracle_answers.leaves_of(things[names[at]][1][steps[at][0]])))[1])
        return found

    def questions(self, seeds, wanted):
        for seed in seeds:
            draw = random.Random(seed)
            world, rights = self.drawn(draw, seed, wanted)
            for rows, parts, question in rights:
                for truth in oracle.truths(question.flags()):
                    if not oracle.form_and_clashes(world, parts, rows, world["root"], truth)[1]:
                        yield draw, world, rows, parts, question, truth

    def test_rises(self):
        for _, world, rows, parts, question, truth in self.questions(range(3000, 3100), 5):
            expected = oracle_answers.rises(world, rows, parts, truth)
            self.assertEqual(rises(question, truth), [found[:3] for found in expected])
            for depth in range(7):
                self.assertEqual(wipes(question, truth, depth=depth), oracle_answers.wipes(world, rows, parts, truth, depth))

    def test_rises_by_answers(self):
        ups = {}
        for _, world, rows, parts, question, truth in self.questions(range(3200, 3300), 4):
            for way, key, up, steps in oracle_answers.rises(world, rows, parts, truth):
                fields = [(field, kind) for (_, field), (_, kind) in zip(steps, way)]
                things, names = store_along(world, fields)
                things[names[-1]][1][steps[-1][1]] = ("fail",)
                data, _ = answer(question, Store(schema_of(world), things, names[0]), truth)
                left = 0
                for step in [*(step for step, _ in way), key]:
                    while isinstance(data, list):
                        data = data[0]
                    if data is None:
                        break
                    left += 1
                    data = data[step]
                self.assertEqual(left, up)
                ups[len(way), up] = ups.get((len(way), up), 0) + 1
        for expected in [(0, 0), (0, 1), (1, 0), (1, 1), (1, 2), (2, 0), (2, 1), (2, 2), (2, 3)]:
            self.assertGreater(ups.get(expected, 0), 10, ups)

    def test_held(self):
        counts = {}
        for _, world, rows, parts, question, truth in self.questions(range(3300, 3350), 3):
            if len(oracle_answers.changes(world)) > 9:
                continue
            for depth, most in [(1, 3), (2, 3), (2, 1), (5, 2), (5, 0), (0, 0)]:
                expected = oracle_answers.held(world, rows, parts, truth, depth, most)
                self.assertEqual(held(question, truth, depth=depth, most=most), expected)
                size = None if expected is None else len(expected)
                counts[size] = counts.get(size, 0) + 1
        for size in (None, 0, 1, 2, 3):
            self.assertGreater(counts.get(size, 0), 2, counts)

    def test_too_many(self):
        refused = kept = 0
        for _, world, rows, parts, question, truth in self.questions(range(3450, 3600), 4):
            many = len(oracle_answers.helping(world, rows, parts, truth, 5))
            if many > 12:
                refused += 1
                with self.assertRaises(TooMany) as raised:
                    held(question, truth, depth=5, most=0)
                self.assertEqual(raised.exception.most, 12)
            else:
                kept += many > 2
                held(question, truth, depth=5)
        self.assertGreater(kept, 10)


if __name__ == "__main__":
    unittest.main()
