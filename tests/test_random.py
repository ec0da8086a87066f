"""Points [5.6] and [6.1] to [6.7] on many questions, against the second reading in tests/oracle.py.

The numbers are drawn with fixed seeds, so that each run tests the same questions.
"""

import random
import unittest

from nestedwishes.errors import BadQuestion, Clash
from nestedwishes.forms import applies, fixed, plain, pruned
from nestedwishes.questions import Question
from tests import oracle
from tests.drawn import random_question, random_world, schema_of

WRONG_VALUES = [None, True, 0, "", "Key", "ab", [], (), ("kind",), ("kind", "k", "k"), ("on", "number", ()), ("part", "zz"),
                {}, ("if", "f", 1, ()), ("field", "a", "b"), (("kind", "k"),) * 7]


def spoiled(draw, value):
    """A copy of nested tuples in which one item is another value."""
    if not isinstance(value, tuple) or not value or draw.random() < 0.2:
        return draw.choice(WRONG_VALUES)
    at = draw.randrange(len(value))
    return value[:at] + (spoiled(draw, value[at]),) + value[at + 1:]


class RandomQuestions(unittest.TestCase):
    def place_of_error(self, schema, rows, parts):
        try:
            Question(schema, rows, parts)
        except BadQuestion as error:
            return error.place
        return None

    def questions(self, seeds, wanted):
        """Questions that are right, in random worlds."""
        for seed in seeds:
            draw = random.Random(seed)
            world = random_world(draw)
            schema = schema_of(world)
            for _ in range(wanted):
                rows, parts = random_question(draw, world)
                if oracle.wrong_place(world, rows, parts) is None:
                    yield world, rows, parts, Question(schema, rows, parts)

    def test_refusals(self):
        refused = 0
        for seed in range(150):
            draw = random.Random(seed)
            world = random_world(draw)
            schema = schema_of(world)
            for _ in range(8):
                rows, parts = random_question(draw, world)
                if draw.random() < 0.6:
                    rows = spoiled(draw, rows)
                if parts and draw.random() < 0.3:
                    name = draw.choice(sorted(parts))
                    parts[name] = spoiled(draw, parts[name])
                place = oracle.wrong_place(world, rows, parts)
                self.assertEqual(self.place_of_error(schema, rows, parts), place)
                refused += place is not None
        self.assertGreater(refused, 300)
        self.assertLess(refused, 1000)

    def test_places(self):
        for world, rows, parts, question in self.questions(range(60), 8):
            expected = list(oracle.everything(rows, parts))
            self.assertEqual([(place, question[place]) for place in question.places()], expected)
            self.assertEqual(len(question), len(expected))
            self.assertEqual(question.flags(), oracle.flags_of(rows, parts))

    def test_plain_forms(self):
        clashes = forms = 0
        for world, rows, parts, question in self.questions(range(150), 8):
            for truth in oracle.truths(question.flags()):
                form, ways = oracle.form_and_clashes(world, parts, rows, world["root"], truth)
                if ways:
                    clashes += 1
                    with self.assertRaises(Clash) as raised:
                        plain(question, truth)
                    self.assertEqual(raised.exception.way, min(ways))
                else:
                    forms += 1
                    self.assertEqual(plain(question, truth), form)
        self.assertGreater(min(clashes, forms), 200)

    def test_applies(self):
        for world, rows, parts, question in self.questions(range(80), 6):
            for place, pairs in oracle.applications(world, parts, rows).items():
                self.assertEqual(applies(question, place), pairs)

    def outcome(self, question, truth):
        try:
            return plain(question, truth)
        except Clash as error:
            return error.way

    def test_pruned(self):
        for world, rows, parts, question in self.questions(range(100, 200), 8):
            given = pruned(question)
            self.assertEqual((given.rows, given.parts()), oracle.pruned(world, parts, rows))
            self.assertTrue(pruned(given) == given)
            for truth in oracle.truths(question.flags()):
                left = {flag: truth[flag] for flag in given.flags()}
                self.assertEqual(self.outcome(given, left), self.outcome(question, truth))

    def test_fixed(self):
        for world, rows, parts, question in self.questions(range(200, 280), 6):
            for truth in oracle.truths(question.flags()):
                given = fixed(question, truth)
                self.assertEqual((given.rows, given.parts()), oracle.fixed(world, parts, rows, truth))
                self.assertEqual(self.outcome(given, {}), self.outcome(question, truth))


if __name__ == "__main__":
    unittest.main()
