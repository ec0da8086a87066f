"""Points [5.6] and [6.1] to [6.7] on many questions, against the second reading in tests/oracle.py.

The numbers are drawn with fixed seeds, so that each run tests the same questions.
"""

import random
import unittest

from nestedwishes.errors import BadQuestion, Clash
from nestedwishes.forms import applies, fixed, plain, pruned
from nestedwishes.questions import Question
from nestedwishes.schemas import Schema
from tests import oracle

WRONG_VALUES = [None, True, 0, "", "Key", "ab", [], (), ("kind",), ("kind", "k", "k"), ("on", "number", ()), ("part", "zz"),
                {}, ("if", "f", 1, ()), ("field", "a", "b"), (("kind", "k"),) * 7]


def random_shape(draw, bases):
    shape = draw.choice(bases)
    for _ in range(draw.choice([0, 0, 1, 2])):
        word = draw.choice(["list", "sure"])
        if not (word == "sure" and isinstance(shape, tuple) and shape[0] == "sure"):
            shape = (word, shape)
    return shape


def random_world(draw):
    kinds = list("pqrstu")[:draw.randint(1, 6)]
    faces = list("fgh")[:draw.randint(0, 3)]
    unions = list("vwx")[:draw.randint(0, 3)]
    bases = ["number", "text", *kinds, *kinds, *faces, *unions]
    shapes = {field: random_shape(draw, bases) for field in "abcde"}
    held = {kind: set(draw.sample(faces, draw.randint(0, len(faces)))) for kind in kinds}
    for face in faces:
        held[draw.choice(kinds)].add(face)
    face_fields = {face: {field: shapes[field] for field in draw.sample("abcde", draw.randint(1, 4))} for face in faces}
    world = {"kinds": {}, "faces": face_fields, "unions": {}, "root": draw.choice(kinds)}
    for kind in kinds:
        needed = {field for face in held[kind] for field in face_fields[face]}
        fields = {}
        for field in "abcde":
            if field in needed or draw.random() < 0.5 or (field == "e" and not fields):
                fields[field] = shapes[field] if field in needed else random_shape(draw, bases)
        world["kinds"][kind] = (tuple(sorted(held[kind])), fields)
    for union in unions:
        world["unions"][union] = tuple(draw.sample(kinds, draw.randint(1, min(4, len(kinds)))))
    return world


def random_rows(draw, world, base, parts, depth):
    """Rows for a base whose height may reach the depth."""
    rows = []
    for _ in range(draw.choice([0, 1, 1, 2, 2, 3]) if depth > 0 else 0):
        rows.append(random_statement(draw, world, base, parts, depth))
    return tuple(rows)


def random_statement(draw, world, base, parts, depth):
    bases = [*world["kinds"], *world["faces"], *world["unions"]]
    word = draw.choice(["field", "field", "field", "kind", "on", "on", "part", "if"])
    fields = sorted(oracle.shapes(world, base))
    if word == "field" and fields:
        name = draw.choice(fields)
        below = oracle.target(world, base, name)
        rows = () if below in oracle.LEAVES else random_rows(draw, world, below, parts, depth - 1)
        return ("field", name, draw.choice([name, name, "k", "l"]), rows)
    if word == "on":
        below = draw.choice([base, *bases])
        return ("on", below, random_rows(draw, world, below, parts, depth - 1))
    if word == "part" and parts:
        return ("part", draw.choice(parts))
    if word == "if":
        return ("if", draw.choice("fgh"), draw.random() < 0.5, random_rows(draw, world, base, parts, depth - 1))
    return ("kind", draw.choice(["k", "m", "m"]))


def random_question(draw, world):
    """Rows and parts. Not all of them make a question: they may be too many, or come to themselves."""
    bases = [*world["kinds"], *world["faces"], *world["unions"]]
    names = draw.sample("abcd", draw.randint(0, 4))
    parts = {}
    for index, name in enumerate(names):
        base = draw.choice(bases)
        usable = names if draw.random() < 0.1 else names[:index]
        parts[name] = (base, random_rows(draw, world, base, usable, draw.choice([1, 1, 2, 3])))
    return random_rows(draw, world, world["root"], names, draw.choice([2, 4, 5, 6])), parts


def spoiled(draw, value):
    """A copy of nested tuples in which one item is another value."""
    if not isinstance(value, tuple) or not value or draw.random() < 0.2:
        return draw.choice(WRONG_VALUES)
    at = draw.randrange(len(value))
    return value[:at] + (spoiled(draw, value[at]),) + value[at + 1:]


class RandomQuestions(unittest.TestCase):
    def schema_of(self, world):
        return Schema(world["kinds"], world["faces"], world["unions"], world["root"])

    def place_of_error(self, schema, rows, parts):
        try:
            Question(schema, rows, parts)
        except BadQuestion as error:
            return error.place
        return None

    def questions(self, seeds, wanted):
        """Questions that are right, in random worlds."""
        for seed in seeds:
            draw = random.Random(seed)
            world = random_world(draw)
            schema = self.schema_of(world)
            for _ in range(wanted):
                rows, parts = random_question(draw, world)
                if oracle.wrong_place(world, rows, parts) is None:
                    yield world, rows, parts, Question(schema, rows, parts)

    def test_refusals(self):
        refused = 0
        for seed in range(150):
            draw = random.Random(seed)
            world = random_world(draw)
            schema = self.schema_of(world)
            for _ in range(8):
                rows, parts = random_question(draw, world)
                if draw.random() < 0.6:
                    rows = spoiled(draw, rows)
                if parts and draw.random() < 0.3:
                    name = draw.choice(sorted(parts))
                    parts[name] = spoiled(draw, parts[name])
                place = oracle.wrong_place(world, rows, parts)
                self.assertEqual(self.place_of_error(schema, rows, parts), place)
                refused += place is not None
        self.assertGreater(refused, 300)
        self.assertLess(refused, 1000)

    def test_places(self):
        for world, rows, parts, question in self.questions(range(60), 8):
            expected = list(oracle.everything(rows, parts))
            self.assertEqual([(place, question[place]) for place in question.places()], expected)
            self.assertEqual(len(question), len(expected))
            self.assertEqual(question.flags(), oracle.flags_of(rows, parts))

    def test_plain_forms(self):
        clashes = forms = 0
        for world, rows, parts, question in self.questions(range(150), 8):
            for truth in oracle.truths(question.flags()):
                form, ways = oracle.form_and_clashes(world, parts, rows, world["root"], truth)
                if ways:
                    clashes += 1
                    with self.assertRaises(Clash) as raised:
                        plain(question, truth)
                    self.assertEqual(raised.exception.way, min(ways))
                else:
                    forms += 1
                    self.assertEqual(plain(question, truth), form)
        self.assertGreater(min(clashes, forms), 200)

    def test_applies(self):
        for world, rows, parts, question in self.questions(range(80), 6):
            for place, pairs in oracle.applications(world, parts, rows).items():
                self.assertEqual(applies(question, place), pairs)

    def outcome(self, question, truth):
        try:
            return plain(question, truth)
        except Clash as error:
            return error.way

    def test_pruned(self):
        for world, rows, parts, question in self.questions(range(100, 200), 8):
            given = pruned(question)
            self.assertEqual((given.rows, given.parts()), oracle.pruned(world, parts, rows))
            self.assertTrue(pruned(given) == given)
            for truth in oracle.truths(question.flags()):
                left = {flag: truth[flag] for flag in given.flags()}
                self.assertEqual(self.outcome(given, left), self.outcome(question, truth))

    def test_fixed(self):
        for world, rows, parts, question in self.questions(range(200, 280), 6):
            for truth in oracle.truths(question.flags()):
                given = fixed(question, truth)
                self.assertEqual((given.rows, given.parts()), oracle.fixed(world, parts, rows, truth))
                self.assertEqual(self.outcome(given, {}), self.outcome(question, truth))


if __name__ == "__main__":
    unittest.main()
