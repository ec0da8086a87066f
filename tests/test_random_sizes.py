"""Points [12.1] to [12.5] on many questions, against the second reading in tests/oracle_sizes.py and by answers."""

import random
import unittest

from nestedwishes.answers import Store, answer
from nestedwishes.errors import BadNumber, Clash
from nestedwishes.sizes import Growth, final, greatest, settled, worst
from tests import oracle, oracle_answers, oracle_sizes
from tests.drawn import (
    clean_things, crowded_rights, leading_rights, listed_world, random_rights, random_world, schema_of, sure_world)

MANY = [0, 1, 2, 3, 7, 10 ** 30]


def size_of(data):
    """The number of leaves and kind names in data."""
    if isinstance(data, dict):
        return sum(size_of(data[key]) for key in data)
    if isinstance(data, list):
        return sum(size_of(item) for item in data)
    return 0 if data is None else 1


def longest(value):
    """The greatest number of items in a list of a value."""
    return max([len(value), *map(longest, value)]) if isinstance(value, list) else 0


def full_value(world, things, shape, led, items):
    """A value of a shape in which each list has so many items."""
    if isinstance(shape, tuple) and shape[0] == "sure":
        return full_value(world, things, shape[1], led, items)
    if isinstance(shape, tuple):
        return [full_value(world, things, shape[1], led, items) for _ in range(items)]
    if shape in oracle.LEAVES:
        return {"number": 0, "text": ""}[shape]
    return led or min(name for name in things if things[name][0] in oracle.members(world, shape))


def chosen_things(world, kind, choice, items, things):
    """Put things that follow a choice into the things, and return the name of the first one of them."""
    name = "abcdefghijklmnopqrstuvwxyz"[len(things)]
    things[name] = (kind, {})
    led = {field: chosen_things(world, other, inner, items, things) for field, (other, inner) in choice.items()}
    things[name][1].update(led)
    return name


def chosen_store(world, choice, items):
    """Things in a store that follow a choice, or None if they would be too many."""
    things = {}
    chosen_things(world, world["root"], choice, items, things)
    for kind in world["kinds"]:
        things.setdefault("xx" + kind, (kind, {}))
    if len(things) > 12:
        return None
    for kind, fields in things.values():
        for field, shape in world["kinds"][kind][1].items():
            fields[field] = full_value(world, things, shape, fields.get(field), items)
    return things


class RandomSizes(unittest.TestCase):
    def cases(self, seeds, wanted):
        for seed in seeds:
            draw = random.Random(seed)
            if seed % 4 == 0:
                world = random_world(draw)
                rights = random_rights(draw, world, wanted)
            elif seed % 4 == 1:
                world = sure_world(draw)
                rights = leading_rights(draw, world, wanted, 0.1)
            else:
                world = listed_world(draw)
                rights = crowded_rights(draw, world, wanted)
            for rows, parts, question in rights:
                truth = draw.choice(oracle.truths(question.flags()))
                clashes = oracle.form_and_clashes(world, parts, rows, world["root"], truth)[1]
                yield draw, world, (rows, parts), question, truth, clashes

    def assert_new(self, value, seen):
        """No dict stands at two places of a choice."""
        self.assertNotIn(id(value), seen)
        seen.append(id(value))
        for _, inner in value.values():
            self.assert_new(inner, seen)

    def test_greatest_and_worst(self):
        clashing = deep = 0
        for draw, world, bare, question, truth, clashes in self.cases(range(400), 3):
            items = draw.choice(MANY)
            if clashes:
                clashing += 1
                for call in (lambda: greatest(question, truth, items=items), lambda: worst(question, truth, items=items),
                             lambda: final(question, truth), lambda: settled(question, truth)):
                    with self.assertRaises(Clash) as raised:
                        call()
                    self.assertEqual(raised.exception.way, min(clashes))
                continue
            bundle = [oracle_answers.form_of(world, bare, truth)]
            size = greatest(question, truth, items=items)
            self.assertIs(type(size), int)
            self.assertEqual(size, oracle_sizes.greatest(world, world["root"], bundle, items))
            choice = worst(question, truth, items=items)
            growth = oracle_sizes.growth_of(world, world["root"], bundle, choice)
            self.assertIsNotNone(growth)
            self.assertEqual(oracle_sizes.value_of(growth, items), size)
            self.assert_new(choice, [])
            deep += len(choice) > 1
        self.assertGreater(min(clashing, deep), 15)

    def test_final_and_settled(self):
        late, counts = {}, 0
        for _, world, bare, question, truth, clashes in self.cases(range(400, 1000), 3):
            if clashes:
                continue
            bundle = [oracle_answers.form_of(world, bare, truth)]
            growth = final(question, truth)
            self.assertIs(type(growth), Growth)
            self.assertEqual(growth.coefficients, oracle_sizes.coefficients(oracle_sizes.final(world, world["root"], bundle)))
            least = settled(question, truth)
            self.assertIs(type(least), int)
            self.assertEqual(least, oracle_sizes.settled(world, world["root"], bundle))
            self.assertLessEqual(least, 1 + greatest(question, truth))
            late[least] = late.get(least, 0) + 1
            for items in [least, least + 1, least + 2, 2 * least + 9, 10 ** 30]:
                self.assertEqual(greatest(question, truth, items=items), growth(items))
            if least > 0:
                self.assertNotEqual(greatest(question, truth, items=least - 1), growth(least - 1))
            if oracle_sizes.count_choices(world, world["root"], bundle) <= 200:
                counts += 1
                self.assert_all_choices(world, bundle, question, truth, growth)
        for least in (0, 1, 2, 3, 4):
            self.assertGreater(late.get(least, 0), 2, late)
        self.assertGreater(counts, 200)

    def assert_all_choices(self, world, bundle, question, truth, growth):
        """No choice has a greater size or a growth that is greater later on, and one reaches both."""
        found = [oracle_sizes.growth_of(world, world["root"], bundle, choice)
                 for choice in oracle_sizes.choices(world, world["root"], bundle)]
        self.assertEqual(max((oracle_sizes.coefficients(other) for other in found), key=lambda other: (len(other), other[::-1])),
                         growth.coefficients)
        for items in (0, 1, 2, 5):
            self.assertEqual(greatest(question, truth, items=items), max(oracle_sizes.value_of(other, items) for other in found))

    def test_sizes_by_answers(self):
        reached = 0
        for draw, world, _, question, truth, clashes in self.cases(range(1000, 1300), 3):
            if clashes:
                continue
            items = draw.choice([0, 1, 2, 3])
            choice = worst(question, truth, items=items)
            things = chosen_store(world, choice, items)
            if things is not None:
                reached += len(choice) > 0
                data, _ = answer(question, Store(schema_of(world), things, "a"), truth)
                self.assertEqual(size_of(data), greatest(question, truth, items=items))
            things, first = clean_things(draw, world)
            most = max(longest(value) for _, fields in things.values() for value in fields.values())
            data, _ = answer(question, Store(schema_of(world), things, first), truth)
            self.assertLessEqual(size_of(data), greatest(question, truth, items=most))
        self.assertGreater(reached, 30)


class RandomGrowths(unittest.TestCase):
    def test_growths(self):
        refused = 0
        for seed in range(400):
            draw = random.Random(seed)
            one, other = (tuple(draw.choice([0, 0, 1, 2, 10 ** 40]) for _ in range(draw.choice([0, 1, 3, 20, 38, 40])))
                          for _ in range(2))
            items, power = draw.choice(MANY), draw.randint(0, 20)
            first, second = Growth(one), Growth(other)
            self.assertEqual(first(items), sum(count * items ** at for at, count in enumerate(one)))
            self.assertEqual((first + second)(items), first(items) + second(items))
            self.assertTrue(first + second == second + first)
            self.assertIs(first == second, first.coefficients == second.coefficients)
            last = max([at for at, count in enumerate(one) if count], default=None)
            self.assertEqual(first.degree, last)
            self.assertEqual(first.coefficients, one[:0 if last is None else last + 1])
            if last is not None and last + power >= 40:
                refused += 1
                with self.assertRaises(BadNumber):
                    first << power
            else:
                self.assertEqual((first << power)(items), first(items) * items ** power)
        self.assertGreater(refused, 30)


if __name__ == "__main__":
    unittest.main()
