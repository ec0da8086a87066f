"""Points [7.1] to [7.7] on many stores, against the second reading in tests/oracle_answers.py."""

import copy
import random
import unittest

from nestedwishes.answers import Prepared, Store, answer, reads
from nestedwishes.errors import BadStore, Clash
from tests import oracle, oracle_answers
from tests.drawn import random_rights, random_things, random_value, random_world, schema_of

WRONG_VALUES = [None, True, False, 0, 10 ** 30, -10 ** 30, "", "a", "zz", "a%b", "\n", "\x7f", "thirteen sign", "fail", [], [[]],
                [None] * 7, (), ("fail",), ("fail", "fail"), ["fail"], {}, {1}, b"a", ("p", {}), [1, True], [["a"], 1]]


def spoiled(draw, value):
    """A copy of a value in which one item is another value."""
    if draw.random() < 0.2 or not isinstance(value, (list, tuple, dict)) or not value:
        return draw.choice(WRONG_VALUES)
    if isinstance(value, dict):
        name = draw.choice(sorted(value, key=repr))
        if draw.random() < 0.1:
            return {**value, draw.choice(["", "zz", 1, None]): value[name]}
        return {**value, name: spoiled(draw, value[name])}
    at = draw.randrange(len(value))
    return type(value)([*value[:at], spoiled(draw, value[at]), *value[at + 1:]])


class RandomStores(unittest.TestCase):
    def test_refusals(self):
        refused = 0
        for seed in range(300):
            draw = random.Random(seed)
            world = random_world(draw)
            for _ in range(5):
                things, first = random_things(draw, world)
                for _ in range(draw.choice([0, 1, 1, 2, 3])):
                    things = spoiled(draw, things)
                if draw.random() < 0.1:
                    first = draw.choice(WRONG_VALUES)
                before = copy.deepcopy(things)
                pair = oracle_answers.wrong_pair(world, things, first)
                try:
                    Store(schema_of(world), things, first)
                    given = None
                except BadStore as error:
                    given = (error.thing, error.field)
                self.assertEqual(given, pair)
                self.assertEqual(things, before)
                refused += pair is not None
        self.assertGreater(refused, 400)
        self.assertLess(refused, 1300)

    def cases(self, seeds):
        for seed in seeds:
            draw = random.Random(seed)
            world = random_world(draw)
            stores = [random_things(draw, world) for _ in range(3)]
            for rows, parts, question in random_rights(draw, world, 6):
                for things, first in stores:
                    for truth in oracle.truths(question.flags())[:4]:
                        yield draw, world, (world, parts, rows, things, first, truth), question, truth

    def test_answers(self):
        counts = {"clashes": 0, "wiped": 0, "faults": 0, "clean": 0}
        for _, world, case, question, truth in self.cases(range(1000, 1120)):
            store = Store(schema_of(world), case[3], case[4])
            clashes = oracle_answers.clash_ways(*case)
            prepared = Prepared(question, truth)
            if clashes:
                counts["clashes"] += 1
                for call in (lambda: answer(question, store, truth), lambda: reads(question, store, truth),
                             lambda: prepared(store)):
                    with self.assertRaises(Clash) as raised:
                        call()
                    self.assertEqual(raised.exception.way, min(clashes))
                self.assertEqual(prepared.answered, 0)
                continue
            expected = (oracle_answers.data(*case), oracle_answers.faults(*case))
            self.assertEqual(answer(question, store, truth), expected)
            self.assertEqual(prepared(store), expected)
            self.assertEqual(prepared.answered, 1)
            self.assertEqual(reads(question, store, truth), oracle_answers.reads(*case))
            counts["wiped" if expected[0] is None else "faults" if expected[1] else "clean"] += 1
        self.assertGreater(min(counts.values()), 100, counts)

    def test_what_is_not_read_does_not_change_the_answer(self):
        changed = unchanged = 0
        for draw, world, case, question, truth in self.cases(range(2000, 2008)):
            store = Store(schema_of(world), case[3], case[4])
            if oracle_answers.clash_ways(*case):
                continue
            before, pairs = answer(question, store, truth), reads(question, store, truth)
            kinds = {name: store.kind_of(name) for name in store.things()}
            for thing, kind in kinds.items():
                for field in world["kinds"][kind][1]:
                    value = random_value(draw, world, kinds, world["kinds"][kind][1][field], 0.2)
                    same = answer(question, store.with_value(thing, field, ("fail",)), truth) == before
                    if (thing, field) in pairs:
                        changed += not same
                    else:
                        unchanged += 1
                        self.assertTrue(same)
                        self.assertEqual(answer(question, store.with_value(thing, field, value), truth), before)
        self.assertGreater(min(changed, unchanged), 100)


if __name__ == "__main__":
    unittest.main()
