"""Texts of schemas and questions, and how they are read again."""

from nestedwishes.errors import NoText
from nestedwishes.names import is_name
from nestedwishes.question_checks import MOST_LEVELS, level_of
from nestedwishes.questions import Question
from nestedwishes.schemas import Schema
from nestedwishes.shapes import WRAPPERS

ROOT_HEADING = ("root", "")
# How many words the lines of a question have.
QUESTION_WORDS = {"field": 3, "kind": 2, "on": 2, "use": 2, "if": 3, "part": 3}
TRUTH_WORDS = ("false", "true")
# The words of the lines behind which a line may have one dot more.
OUTER_WORDS = ("field", "on", "if")


def lines_of(text):
    """Return the lines of a text, or raise NoText if it is none."""
    if not isinstance(text, str):
        raise NoText(0)
    if text == "":
        return []
    return text.split("\n")


def schema_text(schema):
    """Return the text of a schema."""
    lines = []
    for kind in schema.kinds():
        lines.append(["kind", kind, *[face for face in schema.faces() if kind in schema.members(face)]])
        lines.extend(field_lines(schema, kind))
    for face in schema.faces():
        lines.append(["face", face])
        lines.extend(field_lines(schema, face))
    for union in schema.unions():
        lines.append(["union", union, *schema.members(union)])
    lines.append(["root", schema.root])
    return "\n".join([" ".join(words) for words in lines])


def field_lines(schema, base):
    """Return the words of the field lines of a kind or a face."""
    return [["field", field, *shape_words(schema.shape_of(base, field))] for field in schema.fields(base)]


def shape_words(shape):
    """Return the wrappers of a shape from the outermost one on, and its base."""
    if isinstance(shape, tuple):
        return [shape[0], *shape_words(shape[1])]
    return [shape]


def read_schema(text):
    """Return the schema that a text tells."""
    lines = lines_of(text)
    reading = SchemaReading()
    for index in range(len(lines)):
        words = lines[index].split(" ")
        if not is_schema_line(words) or not reading.has_room(words):
            raise NoText(index + 1)
        reading.take_line(words)
    if ROOT_HEADING not in reading.headings:
        raise NoText(len(lines) + 1)
    return schema_of(reading.headings, reading.shapes)


def is_schema_line(words):
    """Tell if words have one of the five forms."""
    names = words[1:]
    if not all([is_name(name) for name in names]):
        return False
    if words[0] == "kind" or words[0] == "union":
        return len(names) >= 1
    if words[0] == "face" or words[0] == "root":
        return len(names) == 1
    return words[0] == "field" and len(names) >= 2 and all([name in WRAPPERS for name in names[1:-1]])


class SchemaReading:
    """What the lines of the text of a schema have told so far.

    A line that is no field line has a heading: its first word and the name after it. There is only one root.
    """

    def __init__(self):
        # From each heading to the other names of its line.
        self.headings = {}
        # From the heading of each kind and face to the shapes of its fields.
        self.shapes = {}
        self.last_heading = ()

    def has_room(self, words):
        """Tell if words of the right form may be the next line."""
        if words[0] == "field":
            return self.last_heading in self.shapes and words[1] not in self.shapes[self.last_heading]
        return heading_of(words) not in self.headings

    def take_line(self, words):
        """Take the words of the next line."""
        if words[0] == "field":
            self.shapes[self.last_heading][words[1]] = shape_from(words[2:])
            return
        self.last_heading = heading_of(words)
        self.headings[self.last_heading] = tuple(words[2:])
        if words[0] == "root":
            self.headings[self.last_heading] = (words[1],)
        if words[0] == "kind" or words[0] == "face":
            self.shapes[self.last_heading] = {}


def heading_of(words):
    """Return the heading of a line that is no field line."""
    if words[0] == "root":
        return ROOT_HEADING
    return words[0], words[1]


def shape_from(words):
    """Return the shape of some wrappers and a base."""
    # The words may be many more than the wrappers that a shape can have.
    shape = words[-1]
    for word in words[:-1][::-1]:
        shape = (word, shape)
    return shape


def schema_of(headings, shapes):
    """Return the schema that headings and shapes of fields tell."""
    kinds = {}
    faces = {}
    unions = {}
    for (word, name), others in headings.items():
        if word == "kind":
            kinds[name] = (others, shapes[word, name])
        elif word == "face":
            faces[name] = shapes[word, name]
        elif word == "union":
            unions[name] = others
    return Schema(kinds, faces, unions, headings[ROOT_HEADING][0])


def question_text(question):
    """Return the text of a question."""
    parts = question.parts()
    lines = [statement_line(question, place) for place in question.places() if not isinstance(place[0], str)]
    for name in sorted(parts):
        lines.append(" ".join(["part", name, parts[name][0]]))
        lines.extend([statement_line(question, place) for place in question.places() if place[0] == name])
    return "\n".join(lines)


def statement_line(question, place):
    """Return the line of a statement."""
    return "." * (level_of(place) - 1) + " ".join(statement_words(question[place]))


def statement_words(statement):
    """Return the words of a statement, without those of the statements inside it."""
    if statement[0] == "part":
        return ["use", statement[1]]
    if statement[0] == "if":
        return ["if", statement[1], TRUTH_WORDS[int(statement[2])]]
    if statement[0] == "field":
        return list(statement[:3])
    return list(statement[:2])


def read_question(schema, text):
    """Return the question over a schema that a text tells."""
    found = [dots_and_words(line) for line in lines_of(text)]
    names = {}
    for index in range(len(found)):
        dots, words = found[index]
        if not is_question_line(words) or dots > most_dots(found, index):
            raise NoText(index + 1)
        if words[0] == "part":
            if words[1] in names:
                raise NoText(index + 1)
            names[words[1]] = True
    rows, parts = rows_and_parts(found)
    return Question(schema, rows, parts)


def dots_and_words(line):
    """Return the number of dots at the beginning of a line, and the words behind them."""
    rest = line.lstrip(".")
    return len(line) - len(rest), rest.split(" ")


def is_question_line(words):
    """Tell if words have one of the forms of a statement or a part."""
    if words[0] not in QUESTION_WORDS or len(words) != QUESTION_WORDS[words[0]]:
        return False
    if words[0] == "if" and words[2] not in TRUTH_WORDS:
        return False
    return all([is_name(word) for word in words[1:]])


def most_dots(found, index):
    """Return how many dots a line may have, where all lines are tuples of dots and words."""
    if index == 0 or found[index][1][0] == "part":
        return 0
    dots, words = found[index - 1]
    if words[0] in OUTER_WORDS:
        return min(dots + 1, MOST_LEVELS - 1)
    # A "part" line has no dots itself, so that the line behind it has none either.
    return dots


def rows_and_parts(found):
    """Return the rows and the parts that right lines tell, each of which is a tuple of dots and words."""
    parts = {}
    # For each number of dots the statements, the last one first, that stand directly in what has not been read yet.
    # The last line is read first, because a statement is made of those inside it.
    waiting = [[] for level in range(MOST_LEVELS + 1)]
    for dots, words in found[::-1]:
        if words[0] == "part":
            parts[words[1]] = (words[2], tuple(waiting[0][::-1]))
            waiting[0] = []
        else:
            waiting[dots].append(statement_from(words, tuple(waiting[dots + 1][::-1])))
            waiting[dots + 1] = []
    return tuple(waiting[0][::-1]), parts


def statement_from(words, rows):
    """Return the statement of a line, with the rows inside it."""
    if words[0] == "use":
        return "part", words[1]
    if words[0] == "kind":
        return "kind", words[1]
    if words[0] == "if":
        return "if", words[1], words[2] == TRUTH_WORDS[1], rows
    return (*words, rows)
