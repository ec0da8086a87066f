"""Points [2], [3] and [5.1] to [5.7], and the interface of nestedwishes/questions.py."""

import copy
import inspect
import unittest

from nestedwishes.errors import BadQuestion, NoPlace, Unlike, UnlikeSchemas
from nestedwishes.questions import Question
from nestedwishes.schemas import Schema
from tests.helpers import BAD_NAMES, box_schema, error_of, nested, odd_values, pet_schema

KIND = ("kind", "k")
SIZE = ("field", "size", "s", ())
BOX = box_schema()
PETS = pet_schema()


def near(*rows):
    return ("field", "near", "n", tuple(rows))


def on(*rows):
    return ("on", "box", tuple(rows))


def asked_if(flag, *rows):
    return ("if", flag, True, tuple(rows))


def question_of(rows, parts=None):
    return Question(BOX, rows, {} if parts is None else parts)


class Refused(unittest.TestCase):
    def refused(self, place, rows, parts=None, schema=BOX):
        error = error_of(BadQuestion, Question, schema, rows, {} if parts is None else parts)
        self.assertEqual(error.place, place)
        self.assertEqual([type(step) for step in error.place], [type(step) for step in place])

    def refused_everywhere(self, statement):
        """A wrong statement is found in the rows, inside of each other form, and in a part."""
        self.refused((0,), (statement,))
        self.refused((1,), (SIZE, statement, KIND))
        self.refused((1, 0, 1), (KIND, near(on(KIND, statement))))
        self.refused((0, 0), (asked_if("f", statement),))
        self.refused(("p", 1), (KIND,), {"p": ("box", (KIND, statement))})
        self.refused(("p", 0, 1), (("part", "p"),), {"p": ("thing", (on(SIZE, statement),))})


class Forms(Refused):
    """[5.1], [5.6]: each of the five forms, and what is wrong with it."""

    def test_right_statements(self):
        rows = (SIZE, KIND, on(), ("part", "p"), asked_if("f"), ("if", "f", False, ()))
        question = question_of(rows, {"p": ("cap", (SIZE,))})
        self.assertEqual(question.rows, rows)
        self.assertEqual(len(question), 7)

    def test_fields(self):
        fields = [("field", "near", "abcdefgh", ()), ("field", "lid", "a", (KIND,)), ("field", "one", "kind", (KIND,))]
        for field in fields:
            self.assertEqual(question_of((field,)).rows, (field,))

    def test_wrong_fields(self):
        wrong = [
            ("field",), ("field", "size"), ("field", "size", "s"), ("field", "size", "s", (), ()),
            ["field", "size", "s", ()], ("Field", "size", "s", ()), ("field", "of", "s", ()), ("field", "cow", "s", ()),
            ("field", "box", "s", ()), ("field", "size", "s", (KIND,)), ("field", "size", "s", []),
            ("field", "near", "s", []), ("field", "near", "s", None), ("field", "near", "s", {}),
            ("field", "near", "s", (KIND,) * 7), ("field", ["size"], "s", ()), ("field", {}, "s", ()),
            ("field", "size", "s", ("x",)), ("field", "", "s", ()),
        ]
        for statement in wrong:
            with self.subTest(statement=statement):
                self.refused_everywhere(statement)

    def test_wrong_keys(self):
        for key in [*BAD_NAMES, None, True, 0, b"s", ("s",), ["s"], set(), {}, nested(80, list)]:
            with self.subTest(key=str(key)[:20]):
                self.refused_everywhere(("field", "size", key, ()))
                self.refused_everywhere(("field", "near", key, (KIND,)))
                self.refused_everywhere(("kind", key))

    def test_wrong_kinds(self):
        for statement in [("kind",), ("kind", "k", "l"), ("kind", "k", ()), ["kind", "k"], (b"kind", "k"), ("Kind", "k")]:
            with self.subTest(statement=statement):
                self.refused_everywhere(statement)

    def test_bases_of_on(self):
        for base in ["cat", "dog", "person", "pet", "any"]:
            rows = (("on", base, (KIND,)),)
            self.assertEqual(Question(PETS, rows, {}).base_at((0, 0)), base)
        for base in ["text", "number", "cow", "name", "list", None, 0, True, ["cat"], ("cat",), {"cat"}, b"cat", {}]:
            with self.subTest(base=base):
                self.refused((0,), (("on", base, ()),), schema=PETS)
                self.refused_everywhere(("on", base, (KIND,)))

    def test_wrong_ons(self):
        wrong = [("on",), ("on", "box"), ("on", "box", (), ()), ["on", "box", ()], ("on", "box", []), ("on", "box", None),
                 ("on", "box", (KIND,) * 7), ("on", "box", {}), ("on", "box", "")]
        for statement in wrong:
            with self.subTest(statement=statement):
                self.refused_everywhere(statement)

    def test_parts_that_do_not_exist(self):
        wrong = [("part",), ("part", "x"), ("part", "p", ()), ("part", "p", "p"), ["part", "p"], ("part", ["p"]),
                 ("part", {}), ("part", None), ("part", True), ("part", b"p"), ("part", "box"), ("part", ("p",))]
        for statement in wrong:
            with self.subTest(statement=statement):
                self.refused_everywhere(statement)
                self.refused((0,), (statement,), {"p": ("box", ())})

    def test_wrong_ifs(self):
        wrong = [
            ("if",), ("if", "f"), ("if", "f", True), ("if", "f", True, (), ()), ["if", "f", True, ()], ("if", "f", 1, ()),
            ("if", "f", 0, ()), ("if", "f", None, ()), ("if", "f", "True", ()), ("if", "f", "", ()), ("if", "f", [], ()),
            ("if", "f", True, []), ("if", "f", False, None), ("if", "f", True, (KIND,) * 7), ("if", "f", (), ()),
        ]
        for statement in wrong:
            with self.subTest(statement=statement):
                self.refused_everywhere(statement)

    def test_wrong_flags(self):
        for flag in [*BAD_NAMES, None, True, 0, b"f", ("f",), ["f"], {}, set(), nested(80, tuple)]:
            with self.subTest(flag=str(flag)[:20]):
                self.refused_everywhere(("if", flag, True, ()))

    def test_wrong_words(self):
        parts = {"p": ("box", (KIND,))}
        for word in ["", "box", "size", "p", "f", "list", "Field", "On", "IF", "parts", "kinds", "fields", None, 0, True, b"on"]:
            for rest in [("size", "s", ()), ("near", "s", (KIND,)), ("k",), ("p",), ("box", ()), ("f", True, ()), ("p", ())]:
                self.refused((0,), ((word, *rest),), parts)
        for word, other in [("on", ("box", ())), ("if", ("f", True, ())), ("field", ("size", "s", ())), ("part", ("p",))]:
            self.assertEqual(len(question_of(((word, *other),), parts)), 2)
            for wrong in ["field", "kind", "on", "part", "if"]:
                if wrong != word and (wrong, word) != ("kind", "part"):
                    self.refused((0,), ((wrong, *other),), parts)

    def test_flags_and_parts_may_have_any_names(self):
        rows = (("if", "box", True, (("part", "number"),)), ("field", "size", "size", ()))
        question = question_of(rows, {"number": ("box", (("if", "kind", False, ()),))})
        self.assertEqual(question.flags(), ["box", "kind"])

    def test_odd_values_as_statements(self):
        for value in odd_values():
            with self.subTest(value=str(type(value))):
                self.refused_everywhere(value)

    def test_odd_values_inside_statements(self):
        right = [SIZE, near(KIND), KIND, on(SIZE), asked_if("f", KIND), ("part", "p")]
        for statement in right:
            for index in range(len(statement)):
                for value in odd_values():
                    changed = statement[:index] + (value,) + statement[index + 1:]
                    try:
                        question_of((changed,), {"p": ("box", ())})
                    except BadQuestion as error:
                        self.assertEqual(error.place[0], 0)


class Bounds(Refused):
    """[5.1], [5.2], [5.6]: numbers, levels and heights."""

    def test_rows_are_no_rows(self):
        for value in odd_values():
            if not (isinstance(value, tuple) and len(value) <= 6):
                with self.subTest(value=str(type(value))):
                    self.refused((), value)
        for value in [None, [], [KIND], {}, "", (KIND,) * 7, set(), range(2), iter(())]:
            self.refused((), value)

    def test_parts_are_no_table(self):
        for value in odd_values():
            if not isinstance(value, dict) and value is not None:
                with self.subTest(value=str(type(value))):
                    self.refused((), (KIND,), value)
        error = error_of(BadQuestion, Question, BOX, (), None)
        self.assertEqual(error.place, ())

    def test_names_of_parts(self):
        for key in [*BAD_NAMES, None, True, 0, b"p", ("p",), ()]:
            with self.subTest(key=key):
                self.refused((), (), {"p": ("box", ()), key: ("box", ())})
        for key in ["a", "abcdefgh", "number", "box"]:
            self.assertEqual(question_of((), {key: ("box", ())}).parts(), {key: ("box", ())})

    def test_number_of_parts(self):
        parts = {name: ("box", ()) for name in "abcd"}
        self.assertEqual(question_of((), parts).parts(), parts)
        self.refused((), (), {**parts, "e": ("box", ())})

    def test_values_of_parts(self):
        for value in odd_values():
            with self.subTest(value=str(type(value))):
                self.refused(("p",), (KIND,), {"p": value, "q": ("box", ())})
        wrong = [("box",), ("box", (), ()), ["box", ()], ("box", []), ("number", ()), ("text", ()), ("cow", ()), (["box"], ()),
                 ("box", (KIND,) * 7), ("box", None), (None, ()), (("box",), ()), ("box", {})]
        for value in wrong:
            with self.subTest(value=value):
                self.refused(("p",), (KIND,), {"p": value})

    def test_bases_of_parts(self):
        for base in ["cat", "person", "pet", "any"]:
            self.assertEqual(Question(PETS, (), {"p": (base, (KIND,))}).base_at(("p", 0)), base)

    def test_six_and_seven_statements(self):
        self.assertEqual(len(question_of((KIND,) * 6)), 6)
        self.refused((), (KIND,) * 7)
        self.assertEqual(len(question_of((on(*[KIND] * 6),), {"p": ("box", (KIND,) * 6)})), 13)
        self.refused((1,), (KIND, on(*[KIND] * 7)))
        self.refused(("p",), (KIND,), {"p": ("box", (KIND,) * 7)})

    def test_level_five_and_six(self):
        five = (on(near(on(near(KIND)))),)
        self.assertEqual(question_of(five).rows, five)
        self.refused((0, 0, 0, 0, 0, 0), (on(near(on(near(on(KIND))))),))
        empty = (on(near(on(near(on())))),)
        self.assertEqual(question_of(empty).rows, empty)
        self.refused((0, 1, 0, 0, 0, 0), (on(KIND, near(on(near(on(KIND, KIND))))),))
        self.refused((0, 0, 0, 0, 0, 0), (on(near(on(near(on(None))))),))

    def test_level_in_parts(self):
        five = (on(near(on(near(KIND)))),)
        self.assertEqual(question_of((), {"p": ("box", five)}).parts(), {"p": ("box", five)})
        self.refused(("p", 0, 0, 0, 0, 0, 0), (), {"p": ("box", (on(near(on(near(on(KIND))))),))})

    def test_forty_and_forty_one_statements(self):
        def rows(count):
            """So many statements, 1 + 6 for each "on"."""
            found = []
            while count > 0:
                inside = min(count - 1, 6)
                found.append(on(*[KIND] * inside))
                count = count - 1 - inside
            return tuple(found)

        self.assertEqual(len(question_of(rows(40))), 40)
        self.refused((5, 4), rows(41))
        self.refused((5, 4), rows(42))
        self.assertEqual(len(question_of(rows(35), {"p": ("box", rows(5))})), 40)
        self.refused(("p", 0, 4), rows(35), {"p": ("box", rows(6))})
        self.refused(("q", 0), rows(20), {"q": ("box", rows(1)), "p": ("box", rows(20))})
        self.assertEqual(len(question_of(rows(20), {"p": ("box", rows(20)), "q": ("box", ())})), 40)

    def test_three_and_four_flags(self):
        three = (asked_if("c", asked_if("a")), asked_if("b", KIND))
        self.assertEqual(question_of(three).flags(), ["a", "b", "c"])
        self.assertEqual(question_of((*three, asked_if("a"), asked_if("c"))).flags(), ["a", "b", "c"])
        self.refused((2,), (*three, asked_if("d")))
        self.refused((1, 0), (asked_if("c", asked_if("a")), asked_if("b", asked_if("d"))))
        self.refused((0, 0, 0, 0), (asked_if("z", asked_if("y", asked_if("x", asked_if("a")))),))
        self.refused(("q", 0), three, {"p": ("box", (asked_if("a"),)), "q": ("box", (asked_if("d"),))})
        parts = {"q": ("box", (asked_if("c"),)), "p": ("box", (asked_if("d"),))}
        self.refused(("q", 0), (asked_if("a"), asked_if("b")), parts)

    def test_height_of_parts_in_rows(self):
        chain = {"a": ("box", (KIND, ("part", "b"))), "b": ("box", (on(("part", "c")),)), "c": ("box", (SIZE, KIND))}
        self.assertEqual(len(question_of((("part", "a"),), chain)), 7)
        five = (("part", "a"), on())
        self.assertEqual(question_of(five, chain).rows, five)
        self.refused((), (on(("part", "a")),), chain)
        self.refused((), (KIND, near(KIND, ("part", "a")), KIND), chain)
        self.assertEqual(len(question_of((on(near(on(("part", "c")))),), chain)), 10)
        self.refused((), (on(near(on(on(("part", "c"))))),), chain)

    def test_height_of_each_form(self):
        parts = {"p": ("box", (on(on(on(KIND))),))}
        self.assertEqual(len(question_of((("part", "p"),), parts)), 5)
        for statement in [on(("part", "p")), near(("part", "p")), asked_if("f", ("part", "p"))]:
            self.refused((), (statement,), parts)
        tall = {"p": ("box", (on(on(on(on(KIND)))),))}
        self.refused((), (("part", "p"),), tall)
        level = {"p": ("box", (on(on(on(on()))),))}
        self.assertEqual(len(question_of((("part", "p"),), level)), 5)

    def test_parts_that_are_not_asked_may_be_tall(self):
        five = (on(on(on(on(("part", "b"))))),)
        parts = {"a": ("box", five), "b": ("box", (on(on(on(on(("part", "c"))))),)), "c": ("box", (KIND,))}
        self.assertEqual(len(question_of((KIND,), parts)), 12)
        self.refused((), (("part", "c"), ("part", "b")), parts)

    def test_an_empty_part_has_height_one(self):
        parts = {"p": ("box", ())}
        self.assertEqual(len(question_of((on(on(on(on(("part", "p"))))),), parts)), 5)


class Bases(Refused):
    """[5.3]."""

    def test_base_at(self):
        rows = (
            ("field", "likes", "a", (KIND, ("on", "dog", (("field", "chases", "b", (("field", "name", "c", ()),)),)))),
            ("if", "f", True, (("field", "pets", "d", (("if", "f", False, (("field", "name", "e", ()),)),)),)),
            ("on", "pet", (("part", "p"),)),
        )
        question = Question(PETS, rows, {"p": ("any", (KIND, ("on", "person", (("if", "f", True, (KIND,)),))))})
        expected = {
            (0,): "person", (0, 0): "any", (0, 1): "any", (0, 1, 0): "dog", (0, 1, 0, 0): "cat", (1,): "person",
            (1, 0): "person", (1, 0, 0): "pet", (1, 0, 0, 0): "pet", (2,): "person", (2, 0): "pet", ("p", 0): "any",
            ("p", 1): "any", ("p", 1, 0): "person", ("p", 1, 0, 0): "person",
        }
        self.assertEqual({place: question.base_at(place) for place in question.places()}, expected)

    def test_no_field_stands_at_a_union(self):
        self.refused((0, 0), (("field", "one", "a", (SIZE,)),))
        self.refused((0, 0, 0), (("field", "one", "a", (asked_if("f", SIZE),)),))
        self.refused(("p", 0), (), {"p": ("thing", (SIZE,))})
        self.refused((0, 0), (("on", "thing", (SIZE,)),))

    def test_a_face_has_its_own_fields_only(self):
        self.refused((0, 1), (("field", "pets", "p", (("field", "name", "n", ()), ("field", "chases", "c", ()))),), schema=PETS)
        self.refused((0, 0), (("on", "cat", (("field", "chases", "c", ()),)),), schema=PETS)
        rows = (("field", "pets", "p", (("on", "dog", (("field", "chases", "c", ()),)),)),)
        self.assertEqual(Question(PETS, rows, {}).rows, rows)

    def test_wrapped_leaves_have_no_rows(self):
        schema = Schema({"a": ((), {"b": ("list", ("sure", "text"))})}, {}, {}, "a")
        self.refused((0,), (("field", "b", "b", (KIND,)),), schema=schema)
        self.assertEqual(len(Question(schema, (("field", "b", "b", ()),), {})), 1)

    def test_on_needs_no_common_kinds(self):
        rows = (("on", "cap", (("field", "of", "o", ()),)),)
        self.assertEqual(question_of(rows).rows, rows)


class Places(unittest.TestCase):
    """[5.4]."""

    def setUp(self):
        self.rows = (on(KIND, near(SIZE, KIND)), SIZE, asked_if("g", ("part", "q")))
        self.parts = {"q": ("box", (KIND, asked_if("f", SIZE))), "p": ("cap", (SIZE,)), "e": ("box", ())}
        self.question = question_of(self.rows, self.parts)
        self.places = [(0,), (0, 0), (0, 1), (0, 1, 0), (0, 1, 1), (1,), (2,), (2, 0), ("p", 0), ("q", 0), ("q", 1),
                       ("q", 1, 0)]

    def test_example_of_the_interface(self):
        schema = Schema({"box": ((), {"size": "number", "near": "box"})}, {}, {}, "box")
        rows = (("field", "near", "a", (("part", "p"),)), ("kind", "k"))
        question = Question(schema, rows, {"p": ("box", (("field", "size", "s", ()),))})
        given = [list(question.places()), question[0, 0], question.base_at(("p", 0)), len(question)]
        self.assertEqual(given, [[(0,), (0, 0), (1,), ("p", 0)], ("part", "p"), "box", 4])

    def test_reading_order(self):
        self.assertEqual(list(self.question.places()), self.places)
        self.assertEqual(len(self.question), 12)
        self.assertEqual(list(question_of(()).places()), [])
        self.assertEqual(len(question_of((), {"p": ("box", ())})), 0)

    def test_places_is_a_generator(self):
        self.assertTrue(inspect.isgenerator(self.question.places()))
        self.assertEqual(next(self.question.places()), (0,))

    def test_statements(self):
        expected = [self.rows[0], KIND, near(SIZE, KIND), SIZE, KIND, SIZE, self.rows[2], ("part", "q"), SIZE, KIND,
                    asked_if("f", SIZE), SIZE]
        self.assertEqual([self.question[place] for place in self.places], expected)

    def test_places_that_exist(self):
        for place in self.places:
            self.assertIs(place in self.question, True)

    def test_places_that_do_not_exist(self):
        wrong = [
            (3,), (-1,), (0, 2), (0, -1), (1, 0), (0, 1, 0, 0), (2, 0, 0), ("p",), ("p", 1), ("p", -1), ("p", 0, 0), ("x", 0),
            ("e", 0), ("q",), ("q", "q"), (0, "q"), ("p", "p", 0), (), (False,), (True,), (0, True), (0, False), (False, 0),
            ("p", False), ("q", True), ("q", True, 0), (0, True, 0), (None,), ([0],), ((0,),), ({},), (0, []), (b"p", 0), 0, 1,
            "p", "q", [0], [0, 0], {0: 0}, None, True, (0, 0, None), (0, 10 ** 30), (10 ** 5000,), nested(90, tuple),
        ]
        for place in [*wrong, *[value for value in odd_values() if value != (0,)]]:
            self.assertIs(place in self.question, False)
            self.assertIs(error_of(NoPlace, lambda at: self.question[at], place).place, place)
            self.assertIs(error_of(NoPlace, self.question.base_at, place).place, place)

    def test_slices_are_no_places(self):
        error_of(NoPlace, lambda at: self.question[at:], 0)

    def test_flags(self):
        self.assertEqual(self.question.flags(), ["f", "g"])
        self.assertEqual(question_of(()).flags(), [])


class Reasons(Refused):
    """[5.6]: several reasons at once, and parts that come to themselves."""

    def test_examples_of_the_interface(self):
        schema = Schema({"box": ((), {"size": "number"})}, {}, {}, "box")
        self.refused((1,), (("kind", "k"), ("field", "size", "s", (("kind", "m"),))), schema=schema)
        parts = {"b": ("box", (("part", "a"),)), "a": ("box", (("on", "box", (("part", "b"),)),))}
        self.refused(("a",), (), parts, schema=schema)

    def test_first_reason_before_wrong_statements(self):
        self.refused((), (None,), {"P": ("box", ())})
        self.refused((), (None,) * 7)
        self.refused((), (None,), {name: ("box", ()) for name in "abcde"})
        self.refused((), (("part", "p"),) * 7, {"p": None})

    def test_first_wrong_statement(self):
        self.refused((1,), (KIND, None, None))
        self.refused((0, 1), (on(KIND, None), None))
        self.refused((0,), (("on", "cow", (None,)), None))
        self.refused((0,), (None,), {"a": None})
        self.refused(("a",), (KIND,), {"b": ("box", (None,)), "a": None})
        self.refused(("a", 0), (KIND,), {"b": None, "a": ("box", (None,))})
        self.refused(("b",), (KIND,), {"c": None, "b": None, "a": ("box", (KIND,))})
        self.refused((0, 0), (on(("kind", "K")), ("kind", "K")))

    def test_reading_order_is_not_the_order_of_the_dict(self):
        wrong = ("box", (KIND, None))
        for names in [("a", "b", "c"), ("c", "b", "a"), ("b", "c", "a")]:
            self.refused(("a", 1), (), {name: wrong for name in names})

    def test_wrong_statements_before_parts_that_come_to_themselves(self):
        self.refused(("b", 1), (), {"a": ("box", (("part", "a"),)), "b": ("box", (KIND, None))})
        self.refused((0,), (("kind", ""),), {"a": ("box", (("part", "a"),))})
        self.refused(("b",), (), {"a": ("box", (("part", "a"),)), "b": ("box",)})

    def test_parts_that_come_to_themselves(self):
        self.refused(("a",), (), {"a": ("box", (("part", "a"),))})
        self.refused(("a",), (("part", "a"),), {"a": ("box", (on(KIND, near(("part", "a"))),))})
        self.refused(("a",), (), {"a": ("box", (asked_if("f", ("part", "a")),))})
        self.refused(("a",), (), {"c": ("box", (("part", "a"),)), "b": ("box", (KIND, ("part", "c"))),
                                  "a": ("box", (("part", "b"),))})

    def test_parts_that_come_to_such_parts_do_not_count(self):
        parts = {"a": ("box", (("part", "c"),)), "b": ("box", (("part", "d"),)), "c": ("box", (KIND, ("part", "b"))),
                 "d": ("box", (on(("part", "b")),))}
        self.refused(("b",), (("part", "a"),), parts)
        self.refused(("d",), (), {"a": ("box", (("part", "d"),)), "d": ("box", (KIND, ("part", "d")))})

    def test_least_of_two_circles(self):
        parts = {"d": ("box", (("part", "d"),)), "b": ("box", (("part", "c"),)), "c": ("box", (("part", "b"),)),
                 "a": ("box", (("part", "d"),))}
        self.refused(("b",), (), parts)

    def test_parts_may_be_used_twice(self):
        parts = {"a": ("box", (("part", "b"), ("part", "c"))), "b": ("box", (("part", "c"), ("part", "c"))), "c": ("box", (KIND,))}
        self.assertEqual(len(question_of((("part", "a"), ("part", "b")), parts)), 7)

    def test_parts_that_come_to_themselves_before_height(self):
        tall = ("box", (on(on(on(on(KIND)))),))
        self.refused(("b",), (("part", "a"),), {"a": tall, "b": ("box", (("part", "b"),))})
        self.refused((), (("part", "a"),), {"a": tall, "b": ("box", ())})

    def test_level_before_height(self):
        self.refused((1, 0, 0, 0, 0, 0), (("part", "a"), on(on(on(on(on(KIND)))))), {"a": ("box", (on(on(on(on(KIND)))),))})

    def test_parts_that_no_statement_names(self):
        self.refused(("p", 0), (KIND,), {"p": ("box", (("field", "cow", "c", ()),))})
        self.refused(("p",), (KIND,), {"p": ("cow", ())})


class Copies(unittest.TestCase):
    """[2]."""

    def test_later_changes_of_arguments(self):
        parts = {"p": ("box", (SIZE,))}
        question = question_of((("part", "p"),), parts)
        parts["p"] = ("cap", ())
        parts["q"] = None
        self.assertEqual(question.parts(), {"p": ("box", (SIZE,))})
        self.assertEqual(list(question.places()), [(0,), ("p", 0)])
        self.assertTrue(question == question_of((("part", "p"),), {"p": ("box", (SIZE,))}))

    def test_later_changes_of_the_tables_of_the_schema(self):
        kinds = {"box": ((), {"size": "number"})}
        schema = Schema(kinds, {}, {}, "box")
        question = Question(schema, (SIZE,), {})
        kinds["box"][1]["size"] = "text"
        self.assertTrue(question.schema == Schema({"box": ((), {"size": "number"})}, {}, {}, "box"))

    def test_returned_values_are_new(self):
        question = question_of((asked_if("f", ("part", "p")),), {"p": ("box", (SIZE,))})
        question.parts().clear()
        question.parts()["q"] = ("box", ())
        question.flags().append("g")
        self.assertEqual(question.parts(), {"p": ("box", (SIZE,))})
        self.assertEqual(question.flags(), ["f"])
        self.assertIs(type(question.flags()), list)
        self.assertIs(type(question.parts()), dict)

    def test_arguments_stay(self):
        parts = {"q": ("box", (SIZE, ("part", "p"))), "p": ("box", (asked_if("f", KIND),))}
        before = copy.deepcopy(parts)
        question_of((("part", "q"),), parts)
        self.assertEqual(parts, before)
        self.assertEqual(list(parts), list(before))
        wrong = {"q": ["box", [KIND]]}
        error_of(BadQuestion, Question, BOX, [KIND], wrong)
        error_of(BadQuestion, Question, BOX, (KIND,), wrong)
        self.assertEqual(wrong, {"q": ["box", [KIND]]})

    def test_attributes(self):
        question = question_of((KIND, SIZE))
        self.assertEqual(question.rows, (KIND, SIZE))
        self.assertTrue(question.schema == BOX)


class EqualityAndSum(unittest.TestCase):
    """[5.7]."""

    def test_equality(self):
        def variants():
            return [
                question_of(()), question_of((KIND,)), question_of((KIND, KIND)), question_of((SIZE,)),
                question_of((KIND, SIZE)), question_of((SIZE, KIND)), question_of((near(KIND),)), question_of((near(),)),
                question_of((asked_if("f", KIND),)), question_of((("if", "f", False, (KIND,)),)),
                question_of((KIND,), {"p": ("box", ())}), question_of((KIND,), {"q": ("box", ())}),
                question_of((KIND,), {"p": ("cap", ())}), question_of((KIND,), {"p": ("box", (KIND,))}),
                question_of((KIND,), {"p": ("box", ()), "q": ("box", ())}),
                Question(BOX.with_shape("cap", "of", ("list", "box")), (KIND,), {}),
            ]

        for first, one in enumerate(variants()):
            for second, other in enumerate(variants()):
                self.assertIs(one == other, first == second)
                self.assertIs(one != other, first != second)

    def test_order_of_parts_means_nothing(self):
        one = question_of((), {"p": ("box", ()), "q": ("cap", ())})
        other = question_of((), {"q": ("cap", ()), "p": ("box", ())})
        self.assertIs(one == other, True)
        self.assertIs(one != other, False)

    def test_sum(self):
        one = question_of((KIND, ("part", "p")), {"p": ("box", (SIZE,)), "q": ("box", ())})
        other = question_of((SIZE, asked_if("f", ("part", "r"))), {"r": ("cap", (KIND,)), "q": ("box", ())})
        parts = {"p": ("box", (SIZE,)), "q": ("box", ()), "r": ("cap", (KIND,))}
        total = one + other
        self.assertTrue(total == question_of((KIND, ("part", "p"), SIZE, asked_if("f", ("part", "r"))), parts))
        self.assertTrue(one == question_of((KIND, ("part", "p")), {"p": ("box", (SIZE,)), "q": ("box", ())}))
        self.assertEqual(other.parts(), {"r": ("cap", (KIND,)), "q": ("box", ())})
        self.assertEqual((other + one).rows, (SIZE, asked_if("f", ("part", "r")), KIND, ("part", "p")))
        self.assertTrue(one + question_of(()) == one)

    def test_sum_over_equal_schemas(self):
        total = question_of((KIND,)) + Question(box_schema(), (SIZE,), {})
        self.assertEqual(total.rows, (KIND, SIZE))

    def add(self, one, other):
        return one + other

    def test_unlike_schemas_come_first(self):
        other = Question(BOX.with_shape("cap", "of", "cap"), (KIND,) * 6, {"p": ("cap", ())})
        error_of(UnlikeSchemas, self.add, question_of((KIND,) * 6, {"p": ("box", ())}), other)
        error_of(UnlikeSchemas, self.add, other, question_of(()))

    def test_unlike_parts_come_next(self):
        one = question_of((KIND,) * 6, {"r": ("box", ()), "q": ("box", ()), "p": ("box", ())})
        other = question_of((KIND,) * 6, {"r": ("cap", ()), "q": ("box", (KIND,)), "p": ("box", ())})
        self.assertEqual(error_of(Unlike, self.add, one, other).part, "q")
        self.assertEqual(error_of(Unlike, self.add, other, one).part, "q")
        more = question_of((), {"p": ("thing", ()), "a": ("box", ())})
        self.assertEqual(error_of(Unlike, self.add, one, more).part, "p")

    def test_bad_sums(self):
        def place(one, other):
            return error_of(BadQuestion, self.add, one, other).place

        self.assertEqual(place(question_of((KIND,) * 3), question_of((KIND,) * 4)), ())
        self.assertEqual(len(question_of((KIND,) * 3) + question_of((SIZE,) * 3)), 6)
        one = question_of((), {"a": ("box", ()), "b": ("box", ())})
        other = question_of((), {"c": ("box", ()), "d": ("box", ()), "e": ("box", ())})
        self.assertEqual(place(one, other), ())
        flags = question_of((asked_if("a", asked_if("b")),)), question_of((KIND, asked_if("c"), asked_if("d")))
        self.assertEqual(place(*flags), (3,))
        many = question_of((on(*[KIND] * 6),) * 3), question_of((on(*[KIND] * 6),) * 3)
        self.assertEqual(place(*many), (5, 4))

    def test_a_part_may_change_in_no_other_way(self):
        one = question_of((("part", "p"),), {"p": ("box", (asked_if("f"),))})
        self.assertTrue(one + one == question_of((("part", "p"),) * 2, {"p": ("box", (asked_if("f"),))}))


if __name__ == "__main__":
    unittest.main()
