"""Points [14.1] to [14.5] on many texts, against the second reading in tests/oracle_texts.py."""

import random
import unittest

from nestedwishes.errors import BadQuestion, BadSchema, NoText, WishError
from nestedwishes.questions import Question
from nestedwishes.schemas import Schema
from nestedwishes.texts import question_text, read_question, read_schema, schema_text
from tests import oracle_texts
from tests.drawn import leading_rights, random_question, random_rights, random_world, schema_of, sure_world

WORDS = ["", " ", "kind", "face", "union", "root", "field", "list", "sure", "text", "on", "use", "if", "part", "true", "false",
         "a", "p", "q", "f", "v", "zz", "abcdefghi", "A", "a1", ".", "..", "kind k", "\t", "\n", "a.", ".a", "\u00e9", "True"]


def spoiled_text(draw, text):
    """A text in which a word, a line or a dot is changed."""
    lines = text.split("\n")
    at = draw.randrange(len(lines))
    sort = draw.randrange(8)
    if sort == 0:
        lines.insert(at, draw.choice(lines))
    elif sort == 1:
        del lines[at]
    elif sort == 2:
        lines[at] = "." + lines[at]
    elif sort == 3:
        lines[at] = lines[at][1:]
    elif sort == 4:
        lines.insert(at, draw.choice(["", "kind p", "root p", "face f", "union v p", "use a", "part a p", "kind k", "field a text"]))
    else:
        words = lines[at].split(" ")
        to = draw.randrange(len(words))
        if sort == 5:
            words[to] = draw.choice(WORDS)
        elif sort == 6:
            words.insert(to, draw.choice(WORDS))
        else:
            del words[to]
        lines[at] = " ".join(words)
    return "\n".join(lines)


def shuffled_schema(draw, world):
    """The lines of a schema in another right order."""
    blocks = []
    for first, *fields in oracle_texts.schema_blocks(world):
        word, name, *others = first.split(" ")
        draw.shuffle(others)
        draw.shuffle(fields)
        blocks.append([" ".join([word, name, *others]), *fields])
    draw.shuffle(blocks)
    return "\n".join(line for block in blocks for line in block)


class RandomSchemaTexts(unittest.TestCase):
    def test_right_texts(self):
        for seed in range(300):
            draw = random.Random(seed)
            world = random_world(draw)
            schema = schema_of(world)
            text = schema_text(schema)
            self.assertEqual(text, oracle_texts.schema_text(world))
            for given in (text, shuffled_schema(draw, world), shuffled_schema(draw, world)):
                read = read_schema(given)
                self.assertIs(type(read), Schema)
                self.assertTrue(read == schema)
                self.assertEqual(schema_text(read), text)

    def test_wrong_texts(self):
        counts = {"line": 0, "schema": 0, "right": 0}
        for seed in range(1000, 1600):
            draw = random.Random(seed)
            text = shuffled_schema(draw, random_world(draw))
            for _ in range(draw.choice([1, 1, 2, 3])):
                text = spoiled_text(draw, text)
            wrong = oracle_texts.wrong_schema_line(text)
            try:
                read = read_schema(text)
                self.assertIsNone(wrong)
                self.assertTrue(read_schema(schema_text(read)) == read)
                counts["right"] += 1
            except NoText as error:
                self.assertEqual(error.line, wrong, text)
                counts["line"] += 1
            except BadSchema:
                self.assertIsNone(wrong)
                counts["schema"] += 1
        self.assertGreater(min(counts.values()), 10, counts)


class RandomQuestionTexts(unittest.TestCase):
    def test_right_texts(self):
        for seed in range(150):
            draw = random.Random(seed)
            world = random_world(draw)
            rights = random_rights(draw, world, 4)
            if seed % 3 == 0:
                world = sure_world(draw)
                rights = leading_rights(draw, world, 4)
            for rows, parts, question in rights:
                text = question_text(question)
                self.assertEqual(text, oracle_texts.question_text(rows, parts))
                read = read_question(question.schema, text)
                self.assertIs(type(read), Question)
                self.assertTrue(read == question)
                self.assertEqual(question_text(read), text)
                blocks = [oracle_texts.question_text((), {name: parts[name]}) for name in parts]
                draw.shuffle(blocks)
                lines = [block for block in [oracle_texts.question_text(rows, {}), *blocks] if block]
                self.assertTrue(read_question(question.schema, "\n".join(lines)) == question)

    def test_wrong_texts(self):
        counts = {"line": 0, "question": 0, "right": 0}
        for seed in range(2000, 2400):
            draw = random.Random(seed)
            world = random_world(draw)
            schema = schema_of(world)
            for _ in range(4):
                text = oracle_texts.question_text(*random_question(draw, world))
                for _ in range(draw.choice([0, 1, 1, 2])):
                    text = spoiled_text(draw, text)
                self.assert_read(schema, text, counts)
        self.assertGreater(min(counts.values()), 50, counts)

    def assert_read(self, schema, text, counts):
        wrong = oracle_texts.wrong_question_line(text)
        if wrong is not None:
            with self.assertRaises(NoText) as raised:
                read_question(schema, text)
            self.assertEqual(raised.exception.line, wrong, text)
            counts["line"] += 1
            return
        rows, parts = oracle_texts.rows_and_parts(text)
        try:
            expected = Question(schema, rows, parts)
        except WishError as error:
            with self.assertRaises(BadQuestion) as raised:
                read_question(schema, text)
            self.assertEqual(raised.exception.place, error.place)
            counts["question"] += 1
            return
        counts["right"] += 1
        self.assertTrue(read_question(schema, text) == expected)


if __name__ == "__main__":
    unittest.main()
