"""Points [2], [3] and [4.1] to [4.6], and the interface of nestedwishes/schemas.py."""

import copy
import unittest

from nestedwishes.errors import BadSchema, BadShape, NoBase, NoField
from nestedwishes.schemas import Schema
from tests.helpers import BAD_NAMES, deep_shape, error_of, nested, odd_values, pet_parts, pet_schema

PLAIN = {"name": "text"}
RIGHT_SHAPES = [
    "number", "text", "cat", "person", "pet", "any", ("list", "cat"), ("sure", "pet"), ("list", ("list", "any")),
    ("sure", ("list", ("sure", "text"))), ("list", ("sure", ("list", ("sure", "number")))), deep_shape("list", 4),
    ("sure", ("list", ("list", ("list", "text")))),
]
WRONG_SHAPES = [
    "cow", "", "Text", "list", "sure", None, True, 0, [], ["list", "text"], {}, set(), b"text", (), ("list",), ("text",),
    ("list", "text", "text"), ("List", "text"), ("bag", "text"), ("text", "list"), ("list", None), ("list", ["text"]),
    ("list", ("sure", "cow")), ("sure", ("sure", "text")), ("list", ("sure", ("sure", "text"))), deep_shape("list", 5),
    ("sure", ("list", ("sure", ("list", ("sure", "text"))))), deep_shape("sure", 2), deep_shape("list", 89),
    (["list"], "text"), ("list", set()), (True, "text"), (b"list", "text"), ("list", ("list",)),
]


def simple(names):
    """Kinds of these names without faces."""
    return {name: ((), {"name": "text"}) for name in names}


def one_kind(faces, fields):
    return {"cat": (faces, fields)}


class Refused(unittest.TestCase):
    def refused(self, part, name, kinds, faces, unions, root):
        error = error_of(BadSchema, Schema, kinds, faces, unions, root)
        self.assertEqual((error.part, error.name), (part, name))


class Bounds(Refused):
    """[4.1], [4.4]: how many of each there may be."""

    def test_number_of_kinds(self):
        names = ["a", "b", "c", "d", "e", "f", "g"]
        self.assertEqual(Schema(simple(["a"]), {}, {}, "a").kinds(), ["a"])
        self.assertEqual(Schema(simple(names[:6]), {}, {}, "a").kinds(), names[:6])
        self.refused("kinds", "", {}, {}, {}, "a")
        self.refused("kinds", "", simple(names), {}, {}, "a")

    def test_number_of_faces(self):
        kinds = one_kind(("f", "g", "h"), PLAIN)
        faces = {"f": PLAIN, "g": PLAIN, "h": PLAIN}
        self.assertEqual(Schema(kinds, faces, {}, "cat").faces(), ["f", "g", "h"])
        self.assertEqual(Schema(simple(["cat"]), {}, {}, "cat").faces(), [])
        self.refused("faces", "", kinds, {**faces, "i": PLAIN}, {}, "cat")

    def test_number_of_unions(self):
        unions = {"u": ("cat",), "v": ("cat",), "w": ("cat",)}
        self.assertEqual(Schema(simple(["cat"]), {}, unions, "cat").unions(), ["u", "v", "w"])
        self.refused("unions", "", simple(["cat"]), {}, {**unions, "x": ("cat",)}, "cat")

    def test_number_of_fields_of_a_kind(self):
        fields = {name: "text" for name in "abcdef"}
        five = {name: "text" for name in "abcde"}
        self.assertEqual(Schema(one_kind((), five), {}, {}, "cat").fields("cat"), ["a", "b", "c", "d", "e"])
        self.assertEqual(Schema(one_kind((), {"a": "cat"}), {}, {}, "cat").fields("cat"), ["a"])
        self.refused("kinds", "cat", one_kind((), {}), {}, {}, "cat")
        self.refused("kinds", "cat", one_kind((), fields), {}, {}, "cat")

    def test_number_of_fields_of_a_face(self):
        five = {name: "text" for name in "abcde"}
        four = {name: "text" for name in "abcd"}
        kinds = one_kind(("pet",), five)
        self.assertEqual(Schema(kinds, {"pet": four}, {}, "cat").fields("pet"), ["a", "b", "c", "d"])
        self.assertEqual(Schema(kinds, {"pet": {"b": "text"}}, {}, "cat").fields("pet"), ["b"])
        self.refused("faces", "pet", kinds, {"pet": five}, {}, "cat")
        self.refused("faces", "pet", kinds, {"pet": {}}, {}, "cat")

    def test_number_of_kinds_of_a_union(self):
        kinds = simple("abcde")
        self.assertEqual(Schema(kinds, {}, {"u": ("b",)}, "a").members("u"), ["b"])
        self.assertEqual(Schema(kinds, {}, {"u": tuple("dabc")}, "a").members("u"), ["a", "b", "c", "d"])
        self.refused("unions", "u", kinds, {}, {"u": ()}, "a")
        self.refused("unions", "u", kinds, {}, {"u": tuple("abcde")}, "a")

    def test_length_of_names(self):
        schema = Schema(one_kind((), {"abcdefgh": "text", "a": "text"}), {}, {"zzzzzzzz": ("cat",)}, "cat")
        self.assertEqual([schema.fields("cat"), schema.unions()], [["a", "abcdefgh"], ["zzzzzzzz"]])
        self.assertEqual(Schema(simple(["a", "abcdefgh"]), {}, {}, "a").kinds(), ["a", "abcdefgh"])

    def test_fields_may_have_any_names(self):
        fields = {"number": "number", "cat": "cat", "list": ("list", "text")}
        schema = Schema(one_kind((), fields), {}, {}, "cat")
        self.assertEqual(schema.fields("cat"), ["cat", "list", "number"])

    def test_bases_may_be_called_like_wrappers(self):
        schema = Schema({"list": ((), {"a": ("list", "list"), "b": "sure"})}, {}, {"sure": ("list",)}, "list")
        self.assertEqual([schema.target("list", "a"), schema.target("list", "b")], ["list", "sure"])
        self.assertEqual(schema.sure("list", "b"), False)
        self.assertEqual(schema.shape_of("list", "a"), ("list", "list"))


class Reasons(Refused):
    """[4.4]: each reason by itself."""

    def test_kinds_are_no_table(self):
        for value in odd_values():
            if not isinstance(value, dict) or len(value) == 0:
                with self.subTest(value=str(type(value))):
                    self.refused("kinds", "", value, {}, {}, "cat")

    def test_kinds_have_a_wrong_key(self):
        for key in [*BAD_NAMES, "number", "text", None, 0, 1, True, b"cat", (), ("cat",), frozenset()]:
            with self.subTest(key=key):
                self.refused("kinds", "", {"cat": ((), PLAIN), key: ((), PLAIN)}, {}, {}, "cat")

    def test_faces_are_no_table(self):
        for value in odd_values():
            if not isinstance(value, dict):
                with self.subTest(value=str(type(value))):
                    self.refused("faces", "", one_kind((), PLAIN), value, {}, "cat")

    def test_faces_have_a_wrong_key(self):
        for key in [*BAD_NAMES, "number", "text", "cat", None, 0, True, b"pet", ("pet",)]:
            with self.subTest(key=key):
                kinds = one_kind(("pet",), PLAIN)
                self.refused("faces", "", kinds, {"pet": PLAIN, key: PLAIN}, {}, "cat")

    def test_unions_are_no_table(self):
        for value in odd_values():
            if not isinstance(value, dict):
                with self.subTest(value=str(type(value))):
                    self.refused("unions", "", one_kind((), PLAIN), {}, value, "cat")

    def test_unions_have_a_wrong_key(self):
        for key in [*BAD_NAMES, "number", "text", "cat", "pet", None, 0, True, b"any", ("any",)]:
            with self.subTest(key=key):
                kinds = one_kind(("pet",), PLAIN)
                self.refused("unions", "", kinds, {"pet": PLAIN}, {"any": ("cat",), key: ("cat",)}, "cat")

    def test_a_kind_has_a_wrong_form(self):
        wrong = [((),), ((), PLAIN, ()), [(), PLAIN], ([], PLAIN), ((), []), ((), None), ("", PLAIN), ({}, PLAIN)]
        for value in [*wrong, *odd_values()]:
            if value != ((), {"a": "text"}):
                with self.subTest(value=str(type(value))):
                    self.refused("kinds", "cat", {"cat": value}, {"pet": PLAIN}, {}, "cat")

    def test_a_kind_has_wrong_faces(self):
        wrong = [("pet", "pet"), ("cow",), ("pet", "cow"), ("cat",), ("text",), (["pet"],), (None,), ("pet", 1), (set(),),
                 ["pet"], "pet", {"pet"}, {"pet": PLAIN}, ("u",), nested(80, tuple)]
        for faces in wrong:
            with self.subTest(faces=faces):
                kinds = {"cat": (faces, PLAIN), "dog": (("pet",), PLAIN)}
                self.refused("kinds", "cat", kinds, {"pet": PLAIN}, {"u": ("cat",)}, "cat")

    def test_a_kind_has_a_wrong_field_name(self):
        for key in [*BAD_NAMES, None, 0, True, b"name", ("name",)]:
            with self.subTest(key=key):
                self.refused("kinds", "cat", one_kind((), {"name": "text", key: "text"}), {}, {}, "cat")

    def test_shapes_of_a_kind(self):
        for shape in RIGHT_SHAPES:
            with self.subTest(shape=shape):
                kinds, faces, unions, root = pet_parts()
                kinds["person"][1]["new"] = shape
                self.assertEqual(Schema(kinds, faces, unions, root).shape_of("person", "new"), shape)
        for shape in [*WRONG_SHAPES, *[value for value in odd_values() if value not in ("number", "text")]]:
            with self.subTest(shape=str(type(shape))):
                kinds, faces, unions, root = pet_parts()
                kinds["person"][1]["new"] = shape
                self.refused("kinds", "person", kinds, faces, unions, root)

    def test_a_face_has_a_wrong_form(self):
        for value in odd_values():
            with self.subTest(value=str(type(value))):
                kinds = {"cat": (("pet",), PLAIN)}
                self.refused("faces", "pet", kinds, {"pet": value}, {}, "cat")

    def test_a_face_has_a_wrong_field_name(self):
        for key in [*BAD_NAMES, None, 0, True, b"name", ("name",)]:
            with self.subTest(key=key):
                self.refused("faces", "pet", one_kind(("pet",), PLAIN), {"pet": {**PLAIN, key: "text"}}, {}, "cat")

    def test_a_face_has_a_wrong_shape(self):
        for shape in WRONG_SHAPES:
            with self.subTest(shape=shape):
                self.refused("faces", "pet", one_kind(("pet",), PLAIN), {"pet": {"name": shape}}, {}, "cat")

    def test_no_kind_has_the_face(self):
        self.refused("faces", "pet", one_kind((), PLAIN), {"pet": PLAIN}, {}, "cat")

    def test_a_face_differs_from_one_of_its_kinds(self):
        right = (("pet",), {"name": "text", "size": "number"})
        for fields in [{"size": "number"}, {"name": "number"}, {"name": ("sure", "text")}, {"name": ("list", "text")}]:
            for kinds in [{"cat": right, "dog": (("pet",), fields)}, {"cat": (("pet",), fields), "dog": right}]:
                with self.subTest(kinds=kinds):
                    self.refused("faces", "pet", kinds, {"pet": PLAIN}, {}, "cat")

    def test_kinds_without_the_face_may_differ(self):
        kinds = {"cat": (("pet",), PLAIN), "dog": ((), {"name": "number"})}
        self.assertEqual(Schema(kinds, {"pet": PLAIN}, {}, "cat").members("pet"), ["cat"])

    def test_a_union_has_a_wrong_form(self):
        wrong = [["cat"], {"cat"}, {"cat": "cat"}, "cat", ("cat", "cat"), ("cow",), ("pet",), ("v",), ("text",), ("cat", 1),
                 (["cat"],), (("cat",),), ("cat", None)]
        for value in [*wrong, *[value for value in odd_values() if value != ("cat",)]]:
            with self.subTest(value=str(type(value))):
                unions = {"u": value, "v": ("cat",)}
                self.refused("unions", "u", one_kind(("pet",), PLAIN), {"pet": PLAIN}, unions, "cat")

    def test_the_root_is_no_kind(self):
        for root in ["pet", "any", "cow", *odd_values()]:
            with self.subTest(root=str(type(root))):
                kinds, faces, unions, _ = pet_parts()
                self.refused("root", "", kinds, faces, unions, root)


class OrderOfReasons(Refused):
    """[4.4]: the first of several reasons counts, and the least name."""

    def test_two_reasons_at_once(self):
        def kinds_key(arguments):
            arguments[0]["number"] = ((), PLAIN)

        def faces_key(arguments):
            arguments[1]["person"] = PLAIN

        def unions_key(arguments):
            arguments[2]["pet"] = ("cat",)

        def kind(arguments):
            arguments[0]["dog"] = (("pet",), {"name": "cow"})

        def face(arguments):
            arguments[1]["free"] = PLAIN

        def union(arguments):
            arguments[2]["any"] = ("cat", "cat")

        def root(arguments):
            arguments[3] = "pet"

        reasons = [
            (kinds_key, ("kinds", "")), (faces_key, ("faces", "")), (unions_key, ("unions", "")), (kind, ("kinds", "dog")),
            (face, ("faces", "free")), (union, ("unions", "any")), (root, ("root", "")),
        ]
        for first in range(len(reasons)):
            for second in range(first, len(reasons)):
                with self.subTest(first=first, second=second):
                    arguments = pet_parts()
                    reasons[second][0](arguments)
                    if second != first:
                        reasons[first][0](arguments)
                    self.refused(*reasons[first][1], *arguments)

    def test_no_tables_at_all(self):
        self.refused("kinds", "", None, None, None, None)
        self.refused("faces", "", {"cat": None}, None, None, None)
        self.refused("unions", "", {"cat": None}, {"pet": None}, None, None)
        self.refused("kinds", "cat", {"cat": None}, {"pet": None}, {"any": None}, None)
        self.refused("faces", "pet", {"cat": ((), PLAIN)}, {"pet": None}, {"any": None}, None)
        self.refused("unions", "any", {"cat": ((), PLAIN)}, {}, {"any": None}, None)

    def test_least_kind(self):
        for names in [("b", "a", "c"), ("c", "b", "a"), ("a", "b", "c")]:
            kinds = {name: None for name in names}
            self.refused("kinds", "a", kinds, {}, {}, "a")
            self.refused("kinds", "b", {**kinds, "a": ((), PLAIN)}, {}, {}, "a")

    def test_least_face(self):
        kinds = one_kind(("g", "f", "h"), {"name": "text", "size": "text"})
        for names in [("h", "g", "f"), ("f", "g", "h"), ("g", "h", "f")]:
            faces = {name: {"name": "number"} for name in names}
            self.refused("faces", "f", kinds, faces, {}, "cat")
            self.refused("faces", "g", kinds, {**faces, "f": PLAIN}, {}, "cat")
            self.refused("faces", "h", kinds, {**faces, "f": PLAIN, "g": {"size": "text"}}, {}, "cat")

    def test_least_union(self):
        for names in [("w", "v", "u"), ("u", "v", "w"), ("v", "w", "u")]:
            unions = {name: () for name in names}
            self.refused("unions", "u", simple(["cat"]), {}, unions, "cat")
            self.refused("unions", "v", simple(["cat"]), {}, {**unions, "u": ("cat",)}, "cat")


class Questions(unittest.TestCase):
    """[4.2], [4.3] and the methods of the interface."""

    def setUp(self):
        self.schema = pet_schema()

    def test_example_of_the_interface(self):
        pet = {"name": "text"}
        kinds = {"cat": (("pet",), {"name": "text"}), "dog": (("pet",), {"name": "text", "chases": ("list", "cat")}),
                 "person": ((), {"name": ("sure", "text"), "pets": ("sure", ("list", "pet"))})}
        schema = Schema(kinds, {"pet": pet}, {"any": ("person", "dog")}, "person")
        given = [schema.members("pet"), schema.members("any"), schema.members("text"), schema.fields("any")]
        self.assertEqual(given, [["cat", "dog"], ["dog", "person"], [], []])

    def test_examples_of_refusals(self):
        kinds = {"cat": (("pet",), {"name": "number"})}
        error = error_of(BadSchema, Schema, kinds, {"pet": {"name": "text"}}, {}, "cat")
        self.assertEqual((error.part, error.name), ("faces", "pet"))
        schema = Schema({"box": ((), {"size": "number"})}, {}, {}, "box")
        error_of(BadShape, schema.with_shape, "box", "size", ("sure", ("sure", "text")))

    def test_names_and_root(self):
        self.assertEqual(self.schema.kinds(), ["cat", "dog", "person"])
        self.assertEqual(self.schema.faces(), ["pet"])
        self.assertEqual(self.schema.unions(), ["any"])
        self.assertEqual(self.schema.root, "person")

    def test_lists_are_ascending_whatever_the_order_of_the_keys(self):
        fields = {"z": "text", "c": "text", "y": "text"}
        kinds = {"s": (("h", "f", "g"), fields), "q": (("g", "h"), fields), "r": (("f", "h", "g"), fields)}
        faces = {"h": {"y": "text", "c": "text"}, "f": {"z": "text", "y": "text"}, "g": {"z": "text"}}
        unions = {"x": ("s", "r", "q"), "v": ("r", "q"), "w": ("s",)}
        schema = Schema(kinds, faces, unions, "r")
        self.assertEqual([schema.kinds(), schema.faces(), schema.unions()], [["q", "r", "s"], ["f", "g", "h"], ["v", "w", "x"]])
        self.assertEqual([schema.members(face) for face in "fgh"], [["r", "s"], ["q", "r", "s"], ["q", "r", "s"]])
        self.assertEqual([schema.members(union) for union in "vx"], [["q", "r"], ["q", "r", "s"]])
        self.assertEqual([schema.fields(base) for base in "sfh"], [["c", "y", "z"], ["y", "z"], ["c", "y"]])
        self.assertEqual([schema.linked(kind, "y") for kind in "qrs"], [["q", "r", "s"]] * 3)

    def test_members(self):
        expected = {"cat": ["cat"], "person": ["person"], "pet": ["cat", "dog"], "any": ["dog", "person"], "text": [],
                    "number": []}
        for base, members in expected.items():
            self.assertEqual(self.schema.members(base), members)

    def test_fields(self):
        expected = {"cat": ["name"], "dog": ["chases", "name"], "person": ["likes", "name", "pets"], "pet": ["name"],
                    "any": [], "text": [], "number": []}
        for base, fields in expected.items():
            self.assertEqual(self.schema.fields(base), fields)

    def test_shapes(self):
        rows = [
            ("cat", "name", "text", "text", False), ("dog", "chases", ("list", "cat"), "cat", False),
            ("person", "name", ("sure", "text"), "text", True), ("pet", "name", "text", "text", False),
            ("person", "pets", ("sure", ("list", "pet")), "pet", True), ("person", "likes", "any", "any", False),
        ]
        for base, field, shape, target, sure in rows:
            self.assertEqual(self.schema.shape_of(base, field), shape)
            self.assertEqual(self.schema.target(base, field), target)
            self.assertIs(self.schema.sure(base, field), sure)

    def test_only_the_outermost_wrapper_makes_a_shape_sure(self):
        fields = {"a": ("list", ("sure", "text")), "b": ("sure", ("list", "text")), "c": ("list", "text")}
        schema = Schema(one_kind((), fields), {}, {}, "cat")
        self.assertEqual([schema.sure("cat", field) for field in "abc"], [False, True, False])
        self.assertEqual([schema.target("cat", field) for field in "abc"], ["text"] * 3)

    def test_contains(self):
        for base in ["cat", "dog", "person", "pet", "any", "text", "number"]:
            self.assertIs(base in self.schema, True)
        for value in ["cow", "name", "list", "sure", *odd_values()]:
            if not (isinstance(value, str) and value in ("text", "number")):
                self.assertIs(value in self.schema, False)

    def test_no_base(self):
        calls = [self.schema.members, self.schema.fields, lambda base: self.schema.shape_of(base, "name"),
                 lambda base: self.schema.target(base, "name"), lambda base: self.schema.sure(base, "name"),
                 lambda base: self.schema.shape_of(base, None)]
        for value in ["cow", *odd_values()]:
            if not (isinstance(value, str) and value in ("text", "number")):
                for call in calls:
                    self.assertIs(error_of(NoBase, call, value).base, value)

    def test_no_field(self):
        calls = [self.schema.shape_of, self.schema.target, self.schema.sure]
        for base in ["cat", "pet", "any", "text", "number", "person"]:
            for field in ["chases", "cow", *odd_values()]:
                for call in calls:
                    error = error_of(NoField, call, base, field)
                    self.assertEqual(error.base, base)
                    self.assertIs(error.field, field)

    def test_unions_and_leaves_have_no_fields(self):
        for base in ["any", "text"]:
            self.assertEqual(error_of(NoField, self.schema.shape_of, base, "name").base, base)

    def test_no_base_comes_before_no_field(self):
        for call in [self.schema.shape_of, self.schema.target, self.schema.sure]:
            self.assertEqual(error_of(NoBase, call, "cow", "cow").base, "cow")


class Copies(unittest.TestCase):
    """[2]: nothing that a caller changes changes a schema."""

    def test_arguments_stay(self):
        arguments = pet_parts()
        schema = Schema(*arguments)
        schema.with_shape("cat", "name", "number")
        schema.linked("cat", "name")
        self.assertEqual(arguments, pet_parts())

    def test_arguments_of_a_refused_schema_stay(self):
        arguments = pet_parts()
        arguments[3] = "pet"
        before = copy.deepcopy(arguments)
        error_of(BadSchema, Schema, *arguments)
        self.assertEqual(arguments, before)

    def test_later_changes_of_arguments(self):
        kinds, faces, unions, root = pet_parts()
        schema = Schema(kinds, faces, unions, root)
        kinds["person"][1]["name"] = "number"
        del kinds["dog"][1]["chases"]
        kinds["cow"] = ((), {"name": "text"})
        faces["pet"]["size"] = "number"
        faces["wild"] = {}
        unions["none"] = ()
        unions["any"] = ("cat",)
        self.assertTrue(schema == pet_schema())
        self.assertEqual(schema.fields("dog"), ["chases", "name"])
        self.assertEqual(schema.fields("pet"), ["name"])
        self.assertEqual(schema.members("any"), ["dog", "person"])

    def test_returned_lists_are_new(self):
        schema = pet_schema()
        calls = [
            (schema.kinds,), (schema.faces,), (schema.unions,), (schema.members, "pet"), (schema.members, "any"),
            (schema.members, "cat"), (schema.members, "text"), (schema.fields, "dog"), (schema.fields, "pet"),
            (schema.fields, "any"), (schema.linked, "cat", "name"),
        ]
        for call, *arguments in calls:
            given = call(*arguments)
            before = list(given)
            self.assertIs(type(given), list)
            given.append("more")
            given.reverse()
            self.assertEqual(call(*arguments), before)
        self.assertTrue(schema == pet_schema())


class Equality(unittest.TestCase):
    """[4.5]."""

    def test_order_means_nothing(self):
        fields = {"a": "text", "b": "text"}
        kinds = {"x": (("f", "g"), fields), "y": ((), {"c": "x"})}
        faces = {"f": {"a": "text", "b": "text"}, "g": {"b": "text"}}
        one = Schema(kinds, faces, {"u": ("x", "y"), "v": ("y",)}, "x")
        turned = {"y": ((), {"c": "x"}), "x": (("g", "f"), {"b": "text", "a": "text"})}
        turned_faces = {"g": {"b": "text"}, "f": {"b": "text", "a": "text"}}
        other = Schema(turned, turned_faces, {"v": ("y",), "u": ("y", "x")}, "x")
        self.assertIs(one == other, True)
        self.assertIs(one != other, False)

    def test_every_difference_counts(self):
        def root(arguments):
            arguments[3] = "cat"

        def new_kind(arguments):
            arguments[0]["cow"] = ((), PLAIN)

        def new_field(arguments):
            arguments[0]["cat"][1]["new"] = "text"

        def new_shape(arguments):
            arguments[0]["person"][1]["name"] = "text"

        def no_face(arguments):
            arguments[0]["dog"] = ((), arguments[0]["dog"][1])

        def new_face(arguments):
            arguments[1]["animal"] = {"name": "text"}
            arguments[0]["cat"] = (("pet", "animal"), {"name": "text"})

        def face_fields(arguments):
            for kind in ["cat", "dog"]:
                arguments[0][kind][1]["new"] = "text"
            arguments[1]["pet"]["new"] = "text"

        def face_fields_alone(arguments):
            arguments[0]["cat"][1]["chases"] = ("list", "cat")
            arguments[1]["pet"] = {"chases": ("list", "cat")}

        def no_union(arguments):
            arguments[0]["person"][1]["likes"] = "dog"
            del arguments[2]["any"]

        def new_union(arguments):
            arguments[2]["more"] = ("cat",)

        def other_union(arguments):
            arguments[2]["any"] = ("cat", "dog")

        changes = [root, new_kind, new_field, new_shape, no_face, new_face, face_fields, face_fields_alone, no_union,
                   new_union, other_union]
        schemas = [pet_schema()]
        for change in changes:
            arguments = pet_parts()
            change(arguments)
            schemas.append(Schema(*arguments))
        for first, one in enumerate(schemas):
            for second, other in enumerate(schemas):
                self.assertIs(one == other, first == second)
                self.assertIs(one != other, first != second)

    def test_only_the_fields_of_a_face_differ(self):
        kinds = one_kind(("pet",), {"a": "text", "b": "text"})
        one = Schema(kinds, {"pet": {"a": "text"}}, {}, "cat")
        other = Schema(kinds, {"pet": {"b": "text"}}, {}, "cat")
        self.assertIs(one == other, False)
        self.assertIs(one != other, True)


def chain_parts():
    """Kinds that are linked by "x" over two faces, and by "y" over one of them."""
    kinds = {
        "a": (("f",), {"x": "text", "y": "text"}),
        "b": (("g", "f"), {"x": "text", "y": "text"}),
        "c": (("g",), {"x": "text", "y": "text"}),
        "d": (("h",), {"x": "text", "y": "text"}),
        "e": ((), {"x": "text", "y": "text"}),
    }
    faces = {"f": {"x": "text"}, "g": {"x": "text", "y": "text"}, "h": {"x": "text"}}
    return [kinds, faces, {"u": ("a", "b", "e")}, "a"]


class Linked(unittest.TestCase):
    """[4.6]."""

    def test_example(self):
        kinds = {"cat": (("pet",), {"name": "text"}), "dog": (("pet",), {"name": "text"}), "person": ((), {"name": "text"})}
        schema = Schema(kinds, {"pet": {"name": "text"}}, {}, "person")
        self.assertEqual([schema.linked("cat", "name"), schema.linked("person", "name")], [["cat", "dog"], ["person"]])

    def test_over_several_faces(self):
        schema = Schema(*chain_parts())
        expected = {"a": (["a", "b", "c"], ["a"]), "b": (["a", "b", "c"], ["b", "c"]),
                    "c": (["a", "b", "c"], ["b", "c"]), "d": (["d"], ["d"]), "e": (["e"], ["e"])}
        for kind, (by_x, by_y) in expected.items():
            self.assertEqual(schema.linked(kind, "x"), by_x)
            self.assertEqual(schema.linked(kind, "y"), by_y)

    def test_a_long_chain(self):
        names = "abcd"
        kinds = {
            "a": (("f",), PLAIN), "b": (("g", "h"), PLAIN), "c": (("f", "g"), PLAIN), "d": (("h",), PLAIN),
            "e": ((), PLAIN),
        }
        schema = Schema(kinds, {"f": PLAIN, "g": PLAIN, "h": PLAIN}, {}, "a")
        for kind in names:
            self.assertEqual(schema.linked(kind, "name"), ["a", "b", "c", "d"])
        changed = schema.with_shape("d", "name", "number")
        for base in ["a", "b", "c", "d", "f", "g", "h"]:
            self.assertEqual(changed.shape_of(base, "name"), "number")
        self.assertEqual(changed.shape_of("e", "name"), "text")

    def test_errors_of_linked(self):
        schema = pet_schema()
        for value in ["pet", "any", "text", "cow", *odd_values()]:
            self.assertIs(error_of(NoBase, schema.linked, value, "name").base, value)
            self.assertIs(error_of(NoBase, schema.linked, value, []).base, value)
        for value in ["chases", "cow", *odd_values()]:
            error = error_of(NoField, schema.linked, "cat", value)
            self.assertEqual(error.base, "cat")
            self.assertIs(error.field, value)

    def test_with_shape_over_faces_and_kinds(self):
        schema = Schema(*chain_parts())
        kinds, faces, unions, root = chain_parts()
        for kind in ["a", "b", "c"]:
            kinds[kind][1]["x"] = ("list", "u")
        for face in ["f", "g"]:
            faces[face]["x"] = ("list", "u")
        for kind in ["a", "b", "c"]:
            self.assertTrue(schema.with_shape(kind, "x", ("list", "u")) == Schema(kinds, faces, unions, root))
        self.assertTrue(schema == Schema(*chain_parts()))

    def test_with_shape_of_one_face_only(self):
        schema = Schema(*chain_parts())
        kinds, faces, unions, root = chain_parts()
        for kind in ["b", "c"]:
            kinds[kind][1]["y"] = ("sure", "number")
        faces["g"]["y"] = ("sure", "number")
        self.assertTrue(schema.with_shape("c", "y", ("sure", "number")) == Schema(kinds, faces, unions, root))

    def test_with_shape_without_faces(self):
        schema = Schema(*chain_parts())
        kinds, faces, unions, root = chain_parts()
        kinds["e"][1]["x"] = "a"
        self.assertTrue(schema.with_shape("e", "x", "a") == Schema(kinds, faces, unions, root))

    def test_with_shape_keeps_the_old_schema(self):
        schema = pet_schema()
        changed = schema.with_shape("cat", "name", ("sure", "number"))
        self.assertEqual(changed.shape_of("pet", "name"), ("sure", "number"))
        self.assertEqual(changed.shape_of("dog", "name"), ("sure", "number"))
        self.assertEqual(changed.shape_of("person", "name"), ("sure", "text"))
        self.assertEqual(changed.shape_of("dog", "chases"), ("list", "cat"))
        self.assertEqual(schema.shape_of("pet", "name"), "text")
        self.assertTrue(schema == pet_schema())

    def test_with_shape_takes_every_shape(self):
        schema = pet_schema()
        for shape in RIGHT_SHAPES:
            self.assertEqual(schema.with_shape("dog", "name", shape).shape_of("cat", "name"), shape)

    def test_errors_of_with_shape_in_their_order(self):
        schema = pet_schema()
        for value in ["pet", "any", "text", "cow", *odd_values()]:
            self.assertIs(error_of(NoBase, schema.with_shape, value, "cow", "cow").base, value)
        for value in ["chases", "cow", *odd_values()]:
            error = error_of(NoField, schema.with_shape, "cat", value, "cow")
            self.assertEqual(error.base, "cat")
            self.assertIs(error.field, value)
        for shape in [*WRONG_SHAPES, *odd_values()]:
            if not (isinstance(shape, str) and shape in ("text", "number")):
                error_of(BadShape, schema.with_shape, "cat", "name", shape)
        self.assertTrue(schema == pet_schema())


if __name__ == "__main__":
    unittest.main()
