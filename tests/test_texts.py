"""Points [2], [3] and [14.1] to [14.5], and the interface of nestedwishes/texts.py."""

import itertools
import unittest

from nestedwishes.errors import BadQuestion, BadSchema, NoText
from nestedwishes.questions import Question
from nestedwishes.schemas import Schema
from nestedwishes.texts import question_text, read_question, read_schema, schema_text
from tests.helpers import BAD_NAMES, asked, asked_if, box_schema, error_of, field, odd_values, on, pet_schema

BOX = box_schema()
KIND = ("kind", "k")
PETS = """kind cat pet
field name text
kind dog pet
field chases list cat
field name text
kind person
field likes any
field name sure text
field pets sure list pet
face pet
field name text
union any dog person
root person"""


def line_of(call, *arguments):
    return error_of(NoText, call, *arguments).line


def schema_line(*lines):
    """The number of the wrong line."""
    return line_of(read_schema, "\n".join(lines))


def bad_schema(*lines):
    error = error_of(BadSchema, read_schema, "\n".join(lines))
    return error.part, error.name


class SchemaText(unittest.TestCase):
    """[14.2]."""

    def test_examples_of_the_document(self):
        kinds = {"person": ((), {"pets": ("list", ("sure", "dog"))}), "dog": ((), {"name": ("sure", "text")})}
        self.assertEqual(schema_text(Schema(kinds, {}, {}, "person")),
                         "kind dog\nfield name sure text\nkind person\nfield pets list sure dog\nroot person")
        self.assertEqual(schema_line("kind dog", "field name text", "field name number", "root dog"), 3)
        text = "kind dog\nfield name sure text\nkind person\nfield pets list sure dog\nroot person"
        self.assertEqual(schema_text(read_schema(text)), text)

    def test_all_parts(self):
        self.assertEqual(schema_text(pet_schema()), PETS)
        self.assertTrue(read_schema(PETS) == pet_schema())

    def test_ascending(self):
        fields = {"b": "text", "a": "number"}
        kinds = {"kb": (("fb", "fa"), {**fields, "c": "ub"}), "ka": (("fb",), dict(fields))}
        schema = Schema(kinds, {"fb": {"b": "text"}, "fa": fields}, {"ub": ("kb", "ka"), "ua": ("kb",)}, "kb")
        self.assertEqual(schema_text(schema).split("\n"), [
            "kind ka fb", "field a number", "field b text", "kind kb fa fb", "field a number", "field b text", "field c ub",
            "face fa", "field a number", "field b text", "face fb", "field b text", "union ua kb", "union ub ka kb", "root kb"])

    def test_wrappers(self):
        for many in range(5):
            for wrappers in itertools.product(("list", "sure"), repeat=many):
                shape = "box"
                for word in reversed(wrappers):
                    shape = (word, shape)
                if not any(pair == ("sure", "sure") for pair in zip(wrappers, wrappers[1:])):
                    schema = Schema({"box": ((), {"f": shape})}, {}, {}, "box")
                    text = " ".join(["kind box\nfield f", *wrappers, "box\nroot box"])
                    self.assertEqual(schema_text(schema), text)
                    self.assertTrue(read_schema(text) == schema)

    def test_words_as_names(self):
        kinds = {"kind": (("face",), {"field": ("list", "list"), "sure": "sure", "list": ("sure", "union")}),
                 "list": ((), {"root": "root"}), "root": ((), {"text": "text"}), "sure": ((), {"number": "number"})}
        schema = Schema(kinds, {"face": {"sure": "sure"}}, {"union": ("list", "kind")}, "root")
        text = schema_text(schema)
        self.assertIn("kind kind face\nfield field list list\nfield list sure union\nfield sure sure\nkind list", text)
        self.assertTrue(text.endswith("face face\nfield sure sure\nunion union kind list\nroot root"))
        self.assertTrue(read_schema(text) == schema)


class ReadSchema(unittest.TestCase):
    """[14.1] and [14.3]."""

    def test_any_order(self):
        text = """root person
face pet
field name text
union any person dog
kind person
field pets sure list pet
field name sure text
field likes any
kind dog pet
field name text
field chases list cat
kind cat pet
field name text"""
        self.assertTrue(read_schema(text) == pet_schema())
        blocks = ["kind b g f\nfield n text\nfield m text", "face f\nfield n text", "face g\nfield m text", "union u c b", "root c", "kind c\nfield x u"]
        expected = Schema({"b": (("f", "g"), {"n": "text", "m": "text"}), "c": ((), {"x": "u"})},
                          {"f": {"n": "text"}, "g": {"m": "text"}}, {"u": ("b", "c")}, "c")
        for order in itertools.permutations(blocks):
            self.assertTrue(read_schema("\n".join(order)) == expected)

    def test_the_read_schema(self):
        self.assertIs(type(read_schema(PETS)), Schema)
        self.assertEqual(read_schema(PETS).root, "person")
        self.assertEqual(read_schema(PETS).shape_of("person", "pets"), ("sure", ("list", "pet")))

    def test_what_is_no_text(self):
        for text in odd_values():
            if not isinstance(text, str):
                self.assertEqual(line_of(read_schema, text), 0)

    def test_no_lines(self):
        self.assertEqual(line_of(read_schema, ""), 1)

    def test_words_of_every_kind(self):
        for text in odd_values():
            if isinstance(text, str) and text:
                self.assertEqual(line_of(read_schema, text), 1)

    def test_no_root_line(self):
        self.assertEqual(schema_line("kind a", "field n text"), 3)
        self.assertEqual(schema_line("kind a"), 2)
        self.assertEqual(schema_line("kind a", "face root", "union root a"), 4)

    def test_wrong_before_no_root_line(self):
        self.assertEqual(schema_line("kind a", "field n", "field m text"), 2)
        self.assertEqual(schema_line("kind a", "field n text", ""), 3)

    def test_empty_words(self):
        good = ["kind a", "field n list text", "root a"]
        read_schema("\n".join(good))
        for at in range(3):
            for wrong in [" " + good[at], good[at] + " ", good[at].replace(" ", "  ", 1), ""]:
                self.assertEqual(schema_line(*good[:at], wrong, *good[at + 1:]), at + 1)
        self.assertEqual(line_of(read_schema, "\n".join(good) + "\n"), 4)
        self.assertEqual(line_of(read_schema, "\n" + "\n".join(good)), 1)
        self.assertEqual(line_of(read_schema, "\n"), 1)
        self.assertEqual(line_of(read_schema, "\n\n"), 1)
        self.assertEqual(line_of(read_schema, "kind a\n\nfield n text\nroot a"), 2)

    def test_other_white_space(self):
        for text in ["kind\ta\nfield n text\nroot a", "kind a\r\nfield n text\nroot a", "kind a\x0bfield n text\nroot a",
                     "kind\u00a0a\nroot a", "kind a\u2028root a", "kind a\x0croot a"]:
            self.assertEqual(line_of(read_schema, text), 1)

    def test_forms(self):
        wrong = ["kind", "face", "union", "root", "field", "field n", "face f g", "root a b", "a", "Kind b", "kinds b", "kind B",
                 "kind b B", "face B", "union u a B", "union U a", "root A", "field N text", "field n Text",
                 "field n set text", "field n text text", "field n list text list text", "field n list sure1 text", "field n LIST text",
                 "part p a", "on a", "use p", "if f true", ".kind b", "kind b.", "kind abcdefghi", "field abcdefghi text",
                 "field n sure list a1", "kind b\u00e4", "kind-b", "kind b,c"]
        for line in wrong:
            self.assertEqual(schema_line("kind a", "field m text", line, "root a"), 3, line)
        # These two words are names here, but no bases.
        for line in ("field n list", "field n sure sure"):
            self.assertEqual(bad_schema("kind a", "field m text", line, "root a"), ("kinds", "a"))
        for name in BAD_NAMES:
            # These would be two names, or two lines.
            if name not in ("c t", "ca\n"):
                for line in (f"kind {name}", f"kind b {name}", f"face {name}", f"union {name}", f"union u a {name}", f"root {name}",
                             f"field {name} text", f"field n {name}", f"field n list {name}"):
                    self.assertEqual(schema_line("kind a", "field m text", line, "root a"), 3, line)

    def test_second_lines(self):
        good = ["kind a f", "field n text", "face f", "field n text", "union u a", "root a"]
        read_schema("\n".join(good))
        for second in ["kind a", "kind a f", "face f", "union u", "union u a", "root a", "root b"]:
            self.assertEqual(schema_line(*good, second), 7)
        self.assertEqual(schema_line("kind a", "kind b", "kind a"), 3)
        self.assertEqual(schema_line("root a", "root a"), 2)

    def test_lines_that_only_mention_a_name(self):
        lines = ["union u a b", "face f", "field n text", "root a", "kind a f", "field n text", "kind b f", "field n text"]
        self.assertEqual(read_schema("\n".join(lines)).members("u"), ["a", "b"])
        # One name as a kind, as a face and as a union is no wrong line, but no schema either.
        self.assertEqual(bad_schema("kind a", "field n text", "face a", "field n text", "root a"), ("faces", ""))
        self.assertEqual(bad_schema("kind a", "field n text", "union a a", "root a"), ("unions", ""))

    def test_field_lines_without_an_owner(self):
        self.assertEqual(schema_line("field n text", "kind a", "root a"), 1)
        self.assertEqual(schema_line("kind a", "root a", "field n text"), 3)
        self.assertEqual(schema_line("kind a", "field n text", "union u a", "field m text", "root a"), 4)
        self.assertEqual(schema_line("union u a", "field m text", "root a"), 2)
        self.assertEqual(schema_line("root a", "field m text"), 2)
        self.assertEqual(schema_line("kind a", "field n text", "root a", "field m text", "field m text"), 4)

    def test_field_lines_belong_to_the_closest_line(self):
        schema = read_schema("kind a\nfield n text\nroot a\nkind b\nfield n number\nfield m a")
        self.assertEqual([schema.fields("a"), schema.fields("b"), schema.shape_of("b", "n")], [["n"], ["m", "n"], "number"])

    def test_second_field_lines(self):
        self.assertEqual(schema_line("kind a", "field n text", "field m text", "field n text", "root a"), 4)
        self.assertEqual(schema_line("kind a f", "field n text", "face f", "field n text", "field n text", "root a"), 5)
        read_schema("kind a f\nfield n text\nface f\nfield n text\nkind b\nfield n text\nroot a")
        # A kind and a face with one name have fields of their own.
        self.assertEqual(bad_schema("kind a", "field n text", "face a", "field n text", "root a"), ("faces", ""))

    def test_the_first_of_two_wrong_lines(self):
        self.assertEqual(schema_line("kind a", "field n", "kind a", "root a"), 2)
        self.assertEqual(schema_line("kind a", "kind a", "field n", "root a"), 2)
        self.assertEqual(schema_line("kind a", "root a", "root a", "field n text"), 3)
        self.assertEqual(schema_line("kind a", "field n text", "field n text", "x"), 3)
        self.assertEqual(schema_line("x", "y"), 1)

    def test_bad_schemas(self):
        self.assertEqual(bad_schema("root a"), ("kinds", ""))
        self.assertEqual(bad_schema("kind text", "field n text", "root text"), ("kinds", ""))
        many = [line for kind in "abcdefg" for line in (f"kind {kind}", "field n text")]
        read_schema("\n".join([*many[:12], "root a"]))
        self.assertEqual(bad_schema(*many, "root a"), ("kinds", ""))
        self.assertEqual(bad_schema("kind a", "root a"), ("kinds", "a"))
        self.assertEqual(bad_schema("kind b", "kind a", "root a"), ("kinds", "a"))
        self.assertEqual(bad_schema("kind a f", "field n text", "root a"), ("kinds", "a"))
        self.assertEqual(bad_schema("kind a f f", "field n text", "face f", "field n text", "root a"), ("kinds", "a"))
        self.assertEqual(bad_schema("kind a", "field n zz", "root a"), ("kinds", "a"))
        self.assertEqual(bad_schema("kind a", "field n sure sure text", "root a"), ("kinds", "a"))
        self.assertEqual(bad_schema("kind a", "field n list list list list list text", "root a"), ("kinds", "a"))
        fields = [f"field {name} text" for name in "abcdef"]
        self.assertEqual(bad_schema("kind a", *fields, "root a"), ("kinds", "a"))
        self.assertEqual(bad_schema("kind a", "field n text", "face f", "field n text", "root a"), ("faces", "f"))
        self.assertEqual(bad_schema("kind a f", "field n text", "face f", "root a"), ("faces", "f"))
        self.assertEqual(bad_schema("kind a f", "field n text", "face f", "field n number", "root a"), ("faces", "f"))
        self.assertEqual(bad_schema("kind a", "field n text", "union u", "root a"), ("unions", "u"))
        self.assertEqual(bad_schema("kind a", "field n text", "union u a a", "root a"), ("unions", "u"))
        self.assertEqual(bad_schema("kind a", "field n text", "union u b", "root a"), ("unions", "u"))
        self.assertEqual(bad_schema("kind a", "field n text", "root b"), ("root", ""))

    def test_very_many_wrappers(self):
        for many in (5, 90, 5000, 100000):
            self.assertEqual(bad_schema("kind a", "field n " + "list " * many + "text", "root a"), ("kinds", "a"))

    def test_very_many_lines(self):
        self.assertEqual(schema_line(*["kind a"] * 100000), 2)
        self.assertEqual(line_of(read_schema, "\n" * 100000), 1)


def question_line(*lines):
    """The number of the wrong line."""
    return line_of(read_question, BOX, "\n".join(lines))


def read(*lines):
    return read_question(BOX, "\n".join(lines))


def bad_place(*lines):
    return error_of(BadQuestion, read_question, BOX, "\n".join(lines)).place


def near(many):
    """Lines for fields inside each other."""
    return ["." * at + "field near n" for at in range(many)]


class QuestionText(unittest.TestCase):
    """[14.4]."""

    def assert_text(self, text, question):
        self.assertEqual(question_text(question), text)
        again = read_question(question.schema, text)
        self.assertIs(type(again), Question)
        self.assertTrue(again == question)
        self.assertTrue(again.schema == question.schema)

    def test_examples_of_the_document(self):
        schema = Schema({"person": ((), {"pets": ("list", "dog")}), "dog": ((), {"name": "text"})}, {}, {}, "person")
        rows = (("field", "pets", "p", (("if", "long", True, (("part", "card"),)),)),)
        question = Question(schema, rows, {"card": ("dog", (("field", "name", "n", ()),))})
        self.assert_text("field pets p\n.if long true\n..use card\npart card dog\nfield name n", question)

    def test_nothing(self):
        self.assert_text("", asked(BOX))
        self.assert_text("part p cap", asked(BOX, p=("cap",)))
        self.assert_text("part p cap\npart q thing", asked(BOX, q=("thing",), p=("cap",)))

    def test_each_form(self):
        self.assert_text("field size s", asked(BOX, field("size", "s")))
        self.assert_text("kind k", asked(BOX, KIND))
        self.assert_text("on cap", asked(BOX, on("cap")))
        self.assert_text("use p\npart p box", asked(BOX, ("part", "p"), p=("box",)))
        self.assert_text("if f true", asked(BOX, asked_if("f", True)))
        self.assert_text("if f false", asked(BOX, asked_if("f", False)))

    def test_dots(self):
        rows = [field("near", "a", on("thing", asked_if("f", False, on("box", KIND), KIND), KIND), KIND), KIND]
        lines = ["field near a", ".on thing", "..if f false", "...on box", "....kind k", "...kind k", "..kind k", ".kind k", "kind k"]
        self.assert_text("\n".join(lines), asked(BOX, *rows))

    def test_parts(self):
        question = asked(BOX, KIND, ("part", "q"), a=("box", on("cap", field("of", "o", ("part", "q")))), q=("thing", KIND, on("box", KIND)),
                         b=("cap",))
        lines = ["kind k", "use q", "part a box", "on cap", ".field of o", "..use q", "part b cap", "part q thing", "kind k", "on box", ".kind k"]
        self.assert_text("\n".join(lines), question)

    def test_parts_alone(self):
        self.assert_text("part p cap\nfield size s\npart q box\nfield size t", asked(BOX, q=("box", field("size", "t")), p=("cap", field("size", "s"))))

    def test_words_as_names(self):
        kinds = {"part": ((), {"field": "part", "if": "text", "use": ("sure", "on")}), "on": ((), {"true": "number"})}
        schema = Schema(kinds, {}, {"kind": ("on", "part")}, "part")
        rows = [field("field", "kind", field("if", "false"), ("part", "use")), field("use", "on", field("true", "true")),
                asked_if("if", True, asked_if("true", False)), on("kind", ("kind", "part"))]
        lines = ["field field kind", ".field if false", ".use use", "field use on", ".field true true", "if if true", ".if true false",
                 "on kind", ".kind part", "part part part", "kind use", "part use kind", "on on", ".kind on"]
        self.assert_text("\n".join(lines), asked(schema, *rows, use=("kind", on("on", ("kind", "on"))), part=("part", ("kind", "use"))))

    def test_forty_statements(self):
        rows = [field("near", "a" + key, *[field("near", "b" + other, KIND) for other in "abc"][:3], *[KIND] * (key == "a")) for key in "abcde"]
        question = asked(BOX, *rows, ("kind", "k"), p=("box", KIND, KIND, KIND))
        self.assertEqual(len(question), 40)
        self.assert_text(question_text(question), question)


class ReadQuestion(unittest.TestCase):
    """[14.1] and [14.5]."""

    def test_what_is_no_text(self):
        for text in odd_values():
            if not isinstance(text, str):
                self.assertEqual(line_of(read_question, BOX, text), 0)

    def test_words_of_every_kind(self):
        for text in odd_values():
            if isinstance(text, str) and text:
                self.assertEqual(line_of(read_question, BOX, text), 1)

    def test_the_empty_text(self):
        self.assertTrue(read_question(BOX, "") == asked(BOX))

    def test_empty_words_and_lines(self):
        good = ["field near n", ".if f true", "..use p", "part p box", "on box", ".kind k"]
        read(*good)
        for at in range(len(good)):
            for wrong in [" " + good[at], good[at] + " ", good[at].replace(" ", "  ", 1), ""]:
                self.assertEqual(question_line(*good[:at], wrong, *good[at + 1:]), at + 1)
        self.assertEqual(line_of(read_question, BOX, "\n".join(good) + "\n"), 7)
        self.assertEqual(line_of(read_question, BOX, "\n" + "\n".join(good)), 1)
        self.assertEqual(line_of(read_question, BOX, "\n"), 1)
        self.assertEqual(question_line("field near n", ". kind k"), 2)

    def test_forms(self):
        right = ["field size s", "kind k", "on cap", "use p", "if f true", "if f false"]
        for line in right:
            read("field near n", line, "." * line.startswith("on") + "kind k", "part p box")
            read("field near n", "." + line, "part p box")
            words = line.split(" ")
            for wrong in [" ".join(words[:-1]), line + " a", words[0], line.upper(), line + ".", line.replace(" ", "."), "x" + line]:
                self.assertEqual(question_line("field near n", wrong, "part p box"), 2, wrong)
                self.assertEqual(question_line("field near n", "." + wrong, "part p box"), 2, wrong)
            for at in range(1, len(words)):
                for name in [name for name in BAD_NAMES if "\n" not in name]:
                    wrong = " ".join([*words[:at], name, *words[at + 1:]])
                    self.assertEqual(question_line("kind k", wrong), 2, wrong)
        for line in ["part p", "part p box box", "part", "part P box", "part p Box", "part p abcdefghi", "if f True", "if f tru", "if f 1", "if true f",
                     "part box", "statement a", "face f", "root a", "union u a", ".", "..", "kind", "\u2024kind k"]:
            self.assertEqual(question_line("kind k", line), 2, line)

    def test_no_to_five_dots(self):
        lines = near(4)
        for many in range(5):
            read(*lines[:many], "." * many + "kind k")
            self.assertEqual(question_line(*lines[:many], "." * (many + 1) + "kind k"), many + 1)
        self.assertEqual(question_line(*near(5), ".....kind k"), 6)
        self.assertEqual(question_line(*near(5), "......kind k"), 6)
        self.assertEqual(question_line(*near(5), ".....field near n"), 6)
        self.assertEqual(len(read(*near(5), "....kind k")), 6)
        self.assertEqual(question_line("." * 100000 + "kind k"), 1)

    def test_dots_behind_each_form(self):
        for line in ["field near n", "on box", "if f true"]:
            for many in range(4):
                for dots in range(many + 2):
                    read(*near(many), "." * many + line, "." * dots + "kind k")
                self.assertEqual(question_line(*near(many), "." * many + line, "." * (many + 2) + "kind k"), many + 2)
        for line in ["kind k", "use p"]:
            for many in range(4):
                for dots in range(many + 1):
                    read(*near(many), "." * many + line, "." * dots + "kind k", "part p box")
                self.assertEqual(question_line(*near(many), "." * many + line, "." * (many + 1) + "kind k", "part p box"), many + 2)

    def test_a_leaf_may_have_more_dots_behind_it(self):
        # The form of the text does not know of leaves, but the question does.
        self.assertEqual(bad_place("field size s", ".kind k"), (0,))

    def test_the_first_line_of_the_text_and_of_a_part(self):
        self.assertEqual(question_line(".kind k"), 1)
        self.assertEqual(question_line("field near n", "part p box", ".kind k"), 3)
        self.assertEqual(question_line("part p box", "on box", "..kind k"), 3)
        self.assertEqual(question_line("part p box", "on box", ".on box", "part q box", ".kind k"), 5)
        read("part p box", "on box", ".kind k", "part q box", "kind k")

    def test_part_lines_have_no_dots(self):
        self.assertEqual(question_line("field near n", ".part p box"), 2)
        self.assertEqual(question_line("part p box", ".part q box"), 2)
        self.assertEqual(question_line(".part p box"), 1)
        read("field near n", ".field near m", "part p box")

    def test_second_part_lines(self):
        self.assertEqual(question_line("part p box", "part p box"), 2)
        self.assertEqual(question_line("part p box", "kind k", "part q box", "part p cap", "part q box"), 4)

    def test_parts_in_any_order(self):
        blocks = [["part a box", "kind k"], ["part b cap", "on cap", ".kind l"], ["part c thing"], ["part d box", "use a", "use b"]]
        expected = asked(BOX, ("part", "d"), a=("box", KIND), b=("cap", on("cap", ("kind", "l"))), c=("thing",), d=("box", ("part", "a"), ("part", "b")))
        for order in itertools.permutations(blocks):
            self.assertTrue(read("use d", *[line for block in order for line in block]) == expected)

    def test_rows_of_every_level(self):
        question = read("field near a", ".field near b", "..kind k", ".field near c", "field near d", ".field near e", "..on box", "...if f true",
                        "....kind k", "..kind l", "kind m")
        rows = [field("near", "a", field("near", "b", KIND), field("near", "c")),
                field("near", "d", field("near", "e", on("box", asked_if("f", True, KIND)), ("kind", "l"))), ("kind", "m")]
        self.assertTrue(question == asked(BOX, *rows))

    def test_the_first_of_two_wrong_lines(self):
        self.assertEqual(question_line("kind k", ".kind k", "x"), 2)
        self.assertEqual(question_line("kind k", "x", ".kind k"), 2)
        self.assertEqual(question_line("part p box", "part p box", "kind K"), 2)
        self.assertEqual(question_line("kind k", "kind l m", "part p box", "part p box"), 2)

    def test_a_wrong_line_comes_before_a_bad_question(self):
        self.assertEqual(question_line("field zz z", "use no", "kind k", "x"), 4)

    def test_bad_questions(self):
        self.assertEqual(bad_place(*["kind k"] * 7), ())
        self.assertEqual(bad_place(*[f"part {name} box" for name in "abcde"]), ())
        self.assertEqual(bad_place("kind k", "field zz z"), (1,))
        self.assertEqual(bad_place("field one a", ".field size s"), (0, 0))
        self.assertEqual(bad_place("use p"), (0,))
        self.assertEqual(bad_place("on number"), (0,))
        self.assertEqual(bad_place("part p number"), ("p",))
        self.assertEqual(bad_place("part p box", "use q", "part q box", "use p"), ("p",))
        self.assertEqual(bad_place("part p box", *["kind k"] * 7), ("p",))
        self.assertEqual(bad_place("field near n", *[".kind k"] * 7), (0,))
        self.assertEqual(bad_place("if a true", "if b true", "if c true", "if d true"), (3,))
        self.assertEqual(bad_place(*near(5)[:4], "....use p", "part p box", "kind k"), ())
        self.assertEqual(bad_place(*[line for _ in range(6) for line in ("on box", *[".kind k"] * 6)]), (5, 4))

    def test_very_many_lines(self):
        self.assertEqual(bad_place(*["kind k"] * 30000), ())
        self.assertEqual(bad_place("field near n", *[".kind k"] * 30000), (0,))
        self.assertEqual(bad_place(*[line for at in range(10000) for line in near(3)]), ())


if __name__ == "__main__":
    unittest.main()
