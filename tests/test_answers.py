"""Points [2], [3] and [7.1] to [7.7], and the interface of nestedwishes/answers.py."""

import copy
import itertools
import unittest

from nestedwishes.answers import Prepared, Store, answer, reads
from nestedwishes.errors import BadFlags, BadStore, Clash, NoField, NoThing, UnlikeSchemas
from nestedwishes.questions import Question
from nestedwishes.schemas import Schema
from tests.helpers import BAD_NAMES, box_schema, error_of, odd_values, pet_schema

FAIL = ("fail",)
BOX = box_schema()


def box_things():
    """A thing of each kind of box_schema, which lead to each other and to themselves."""
    return {
        "b": ("box", {"size": 1, "near": "b", "lid": "c", "one": "c"}),
        "c": ("cap", {"size": 2, "of": "b"}),
    }


def pet_things():
    return {
        "ann": ("person", {"name": "Ann", "pets": ["rex", "tom"], "likes": "rex"}),
        "rex": ("dog", {"name": "Rex", "chases": ["tom", "tom"]}),
        "tom": ("cat", {"name": "Tom"}),
    }


def shaped(shape):
    """A schema whose root has one field of this shape; there are other kinds, a face and a union."""
    kinds = {"box": (("held",), {"f": shape}), "cap": ((), {"n": "number"}), "pin": ((), {"t": "text"}),
             "list": ((), {"fail": "text"})}
    return Schema(kinds, {"held": {"f": shape}}, {"both": ("cap", "pin")}, "box")


def shaped_things(value):
    return {"b": ("box", {"f": value}), "c": ("cap", {"n": 1}), "p": ("pin", {"t": "x"}), "fail": ("list", {"fail": ""})}


def pair_of(*arguments):
    error = error_of(BadStore, Store, *arguments)
    return error.thing, error.field


def field(name, key, *rows):
    return ("field", name, key, tuple(rows))


def asked(schema, rows, parts=None):
    return Question(schema, tuple(rows), parts or {})


class StoreReasons(unittest.TestCase):
    """[7.1] and [7.3]: the reasons and their order."""

    def test_right_stores(self):
        store = Store(BOX, box_things(), "b")
        self.assertTrue(store.schema == BOX)
        self.assertEqual(store.first, "b")
        self.assertEqual(store.things(), ["b", "c"])
        self.assertEqual([store.kind_of("b"), store.kind_of("c")], ["box", "cap"])
        self.assertEqual([store.value("b", "size"), store.value("c", "of")], [1, "b"])

    def test_one_to_twelve_things(self):
        schema = Schema({"box": ((), {"size": "number"})}, {}, {}, "box")
        for many in range(1, 13):
            things = {letter: ("box", {"size": None}) for letter in "lkjihgfedcba"[:many]}
            self.assertEqual(Store(schema, things, "l").things(), sorted("lkjihgfedcba"[:many]))
        self.assertEqual(pair_of(schema, {}, "a"), ("", ""))
        things = {letter: ("box", {"size": None}) for letter in "abcdefghijklm"}
        self.assertEqual(pair_of(schema, things, "a"), ("", ""))

    def test_things_that_are_no_dict(self):
        for things in odd_values():
            if type(things) is not dict:
                self.assertEqual(pair_of(BOX, things, "b"), ("", ""))
        self.assertEqual(pair_of(BOX, list(box_things().items()), "b"), ("", ""))

    def test_names_of_things(self):
        for name in ["a", "z", "abcdefgh", "number", "text", "box", "fail", "size"]:
            things = {"b": box_things()["b"], "c": box_things()["c"], name: box_things()["c"]}
            self.assertIn(name, Store(BOX, things, "b").things())
        for name in [*BAD_NAMES, None, True, 1, b"a", (), ("a",), frozenset()]:
            self.assertEqual(pair_of(BOX, {**box_things(), name: box_things()["c"]}, "b"), ("", ""))

    def test_wrong_things(self):
        fields = box_things()["c"][1]
        wrong = [
            ("cap",), ("cap", fields, fields), ["cap", fields], (fields, "cap"), ("cap", [("size", 2), ("of", "b")]),
            ("cap", ("size", "of")), ("cap", {"size", "of"}), ("cap", {"size": 2}), ("cap", {"of": "b"}), ("cap", {}),
            ("cap", {**fields, "more": 1}), ("cap", {"size": 2, "off": "b"}), ("cap", {"size": 2, b"of": "b"}),
            ("cap", {"size": 2, None: "b"}), ("cap", {"size": 2, ("of",): "b"}),
            ("thing", fields), ("number", fields), ("zz", fields), ("Cap", fields), (None, fields), (b"cap", fields),
            (("cap",), fields), (["cap"], fields), ({"cap"}, fields), (True, fields), (0, fields), ({}, fields),
        ]
        for thing in wrong:
            self.assertEqual(pair_of(BOX, {**box_things(), "c": thing}, "b"), ("c", ""))
        for thing in odd_values():
            self.assertEqual(pair_of(BOX, {**box_things(), "c": thing}, "b"), ("c", ""))
            self.assertEqual(pair_of(BOX, {**box_things(), "c": ("cap", thing)}, "b"), ("c", ""))
            self.assertEqual(pair_of(BOX, {**box_things(), "c": (thing, fields)}, "b"), ("c", ""))

    def test_a_thing_of_a_face_or_a_union(self):
        things = pet_things()
        for kind in ("pet", "any", "text"):
            self.assertEqual(pair_of(pet_schema(), {**things, "tom": (kind, {"name": "Tom"})}, "ann"), ("tom", ""))

    def test_the_least_wrong_thing(self):
        things = {**box_things(), "d": None, "a": ("cap", {}), "ab": ()}
        self.assertEqual(pair_of(BOX, things, "b"), ("a", ""))
        things = {**box_things(), "d": None, "ab": ()}
        self.assertEqual(pair_of(BOX, things, "b"), ("ab", ""))

    def test_the_least_wrong_pair(self):
        things = box_things()
        things["b"][1].update(size="x", lid="b")
        things["c"][1].update(of="c")
        self.assertEqual(pair_of(BOX, things, "b"), ("b", "lid"))
        things["b"][1].update(lid=None)
        self.assertEqual(pair_of(BOX, things, "b"), ("b", "size"))
        things["b"][1].update(size=None)
        self.assertEqual(pair_of(BOX, things, "b"), ("c", "of"))
        things["a"] = ("cap", {"size": [], "of": "b"})
        self.assertEqual(pair_of(BOX, things, "b"), ("a", "size"))

    def test_the_first_thing(self):
        for first in [*odd_values(), "c", "box", "x", "B", b"b", ["b"], ("b",)]:
            self.assertEqual(pair_of(BOX, box_things(), first), ("", ""))
        things = {**box_things(), "a": box_things()["b"]}
        self.assertEqual(Store(BOX, things, "a").first, "a")

    def test_order_of_the_reasons(self):
        names = {**box_things(), "C": None}
        self.assertEqual(pair_of(BOX, {**names, "a": None}, "zz"), ("", ""))
        forms = {**box_things(), "c": ("cap", {})}
        forms["b"][1]["size"] = "wrong"
        self.assertEqual(pair_of(BOX, forms, "zz"), ("c", ""))
        values = box_things()
        values["b"][1]["size"] = "wrong"
        self.assertEqual(pair_of(BOX, values, "zz"), ("b", "size"))
        self.assertEqual(pair_of(BOX, values, None), ("b", "size"))
        many = {letter: None for letter in "abcdefghijklm"}
        self.assertEqual(pair_of(BOX, many, "b"), ("", ""))

    def test_a_wrong_thing_comes_before_a_value_that_names_it(self):
        things = box_things()
        things["b"][1]["lid"] = "d"
        things["d"] = ("zz", {})
        self.assertEqual(pair_of(BOX, things, "b"), ("d", ""))


class Values(unittest.TestCase):
    """[7.2]."""

    def is_right(self, shape, value):
        schema, things = shaped(shape), shaped_things(value)
        before = copy.deepcopy(things)
        try:
            store = Store(schema, things, "b")
        except BadStore as error:
            self.assertEqual((error.thing, error.field), ("b", "f"))
            store = None
        self.assertEqual(things, before)
        other = Store(schema, shaped_things(None), "b")
        if store is None:
            error = error_of(BadStore, other.with_value, "b", "f", value)
            self.assertEqual((error.thing, error.field), ("b", "f"))
            return False
        self.assertEqual(store.value("b", "f"), value)
        self.assertTrue(other.with_value("b", "f", value) == store)
        return True

    def test_empty_and_failing_values_stand_everywhere(self):
        for base in ("number", "text", "cap", "held", "both"):
            for shape in (base, ("sure", base)):
                for value in (None, FAIL):
                    self.assertTrue(self.is_right(shape, value))
                    self.assertTrue(self.is_right(("list", shape), value))
                    self.assertTrue(self.is_right(("list", shape), [value, None, FAIL]))
                    self.assertTrue(self.is_right(("sure", ("list", shape)), [value]))
                    self.assertTrue(self.is_right(("list", ("list", shape)), [value, [], [value]]))
                    self.assertTrue(self.is_right(("sure", ("list", ("sure", ("list", base)))), [value, [value]]))

    def test_what_only_looks_like_failing(self):
        for value in [(), ("fail", "fail"), ("fail", None), ("Fail",), ("fai",), (FAIL,), ("fail", ()), (None,), (b"fail",)]:
            for shape in ("number", "text", "both", ("sure", "text")):
                self.assertFalse(self.is_right(shape, value))
                self.assertFalse(self.is_right(("list", shape), value))
                self.assertFalse(self.is_right(("list", shape), [value]))

    def test_words_that_mean_something(self):
        self.assertTrue(self.is_right("text", "fail"))
        self.assertFalse(self.is_right("text", ["fail"]))
        self.assertTrue(self.is_right("list", "fail"))
        self.assertFalse(self.is_right("list", ["fail"]))
        self.assertTrue(self.is_right(("list", "text"), ["fail"]))
        self.assertTrue(self.is_right(("list", "list"), ["fail", FAIL]))

    def test_numbers(self):
        for value in [0, 1, -1, 10 ** 29, 10 ** 30 - 1, 1 - 10 ** 30]:
            self.assertTrue(self.is_right("number", value))
            self.assertTrue(self.is_right(("list", ("sure", "number")), [0, value]))
        for value in [10 ** 30, -10 ** 30, 10 ** 31, 10 ** 5000, -10 ** 5000, True, False, "1", "", b"1", [1], (1,), {1}, {1: 1}]:
            self.assertFalse(self.is_right("number", value))
            self.assertFalse(self.is_right(("sure", "number"), value))
            self.assertFalse(self.is_right(("list", ("sure", "number")), [0, value]))

    def test_texts(self):
        signs = [chr(code) for code in range(32, 127) if code != 37]
        self.assertEqual(len(signs), 94)
        for sign in signs:
            self.assertTrue(self.is_right("text", sign))
        for value in ["", "twelve signs", " " * 12, "~" * 12, "0", "None"]:
            self.assertTrue(self.is_right("text", value))
            self.assertTrue(self.is_right(("list", "text"), ["", value]))
        wrong = ["thirteen sign", "x" * 500, "%", "a%b", "%d", "\n", "a\n", "\t", "\r", "\0", "\x1f", "\x7f", "\x80", "\u00e4"]
        for value in [*wrong, "\uff05", "\ud800", True, 0, b"", b"a", ["a"], ("a",), {"a"}, {"a": "a"}]:
            self.assertFalse(self.is_right("text", value))
            self.assertFalse(self.is_right(("sure", "text"), value))
            self.assertFalse(self.is_right(("list", "text"), ["", value]))

    def test_lists(self):
        for shape in (("list", "number"), ("sure", ("list", "number")), ("list", ("sure", "number"))):
            for many in range(7):
                self.assertTrue(self.is_right(shape, [1] * many))
            for many in (7, 8, 100):
                self.assertFalse(self.is_right(shape, [1] * many))
                self.assertFalse(self.is_right(shape, [None] * many))
            for value in [(), (1,), (1, 2), 1, "1", "", {1}, {1: 1}, range(2), b"1", bytearray(b"1"), [[1]], [[]], [1, "1"]]:
                self.assertFalse(self.is_right(shape, value))

    def test_lists_of_lists(self):
        shape = ("list", ("list", ("list", ("list", "text"))))
        self.assertTrue(self.is_right(shape, []))
        self.assertTrue(self.is_right(shape, [[[[]]]]))
        full = ["a"] * 6
        for _ in range(3):
            full = [full] * 6
        self.assertTrue(self.is_right(shape, full))
        self.assertFalse(self.is_right(shape, [[[["a"] * 7]]]))
        self.assertFalse(self.is_right(shape, [[[["a"]] * 7]]))
        self.assertFalse(self.is_right(shape, [[[("a",)]]]))
        self.assertFalse(self.is_right(shape, [[[[["a"]]]]]))
        self.assertFalse(self.is_right(shape, [[["a"]]]))
        self.assertFalse(self.is_right(shape, ["a"]))

    def test_things(self):
        for shape, names in [("cap", "c"), ("pin", "p"), ("held", "b"), ("box", "b"), ("both", "cp")]:
            for name in ["b", "c", "p"]:
                self.assertEqual(self.is_right(shape, name), name in names)
                self.assertEqual(self.is_right(("sure", shape), name), name in names)
                self.assertEqual(self.is_right(("list", ("sure", shape)), [name]), name in names)
            for name in ["d", "", "cap", "held", "C", b"c", 0, True, ["c"], ("c",), {"c"}, {"c": 1}, ("cap", {"n": 1})]:
                self.assertFalse(self.is_right(shape, name))

    def test_values_of_every_kind(self):
        # In the list are the few values of odd_values that are right for each shape.
        right = {"number": [0, 1, 2, -1, 7], "both": [], ("list", "cap"): [[]], ("list", ("list", "number")): [[], [[]]]}
        for shape, expected in right.items():
            for value in odd_values():
                found = any(type(value) is type(other) and value == other for other in expected)
                self.assertEqual(self.is_right(shape, value), found or value is None)


class StoreMethods(unittest.TestCase):
    """The interface of Store, and [2] about it."""

    def test_no_thing(self):
        store = Store(BOX, box_things(), "b")
        for thing in [*odd_values(), "box", "B", "d", b"b", ("b",), ["b"]]:
            self.assertIs(error_of(NoThing, store.kind_of, thing).thing, thing)
            self.assertIs(error_of(NoThing, store.value, thing, "size").thing, thing)
            self.assertIs(error_of(NoThing, store.value, thing, thing).thing, thing)
            self.assertIs(error_of(NoThing, store.with_value, thing, "size", 1).thing, thing)
            self.assertIs(error_of(NoThing, store.with_value, thing, thing, thing).thing, thing)

    def test_no_field(self):
        store = Store(BOX, box_things(), "b")
        for name in [*odd_values(), "of", "b", "Size", b"size", ("size",), ["size"]]:
            for call in (lambda: store.value("b", name), lambda: store.with_value("b", name, name)):
                error = error_of(NoField, call)
                self.assertEqual(error.base, "box")
                self.assertIs(error.field, name)
        self.assertEqual(error_of(NoField, store.value, "c", "near").base, "cap")

    def test_with_value(self):
        store, before = Store(BOX, box_things(), "b"), Store(BOX, box_things(), "b")
        changed = store.with_value("b", "size", 5)
        self.assertEqual([store.value("b", "size"), changed.value("b", "size")], [1, 5])
        things = box_things()
        things["b"][1]["size"] = 5
        self.assertTrue(changed == Store(BOX, things, "b"))
        self.assertTrue(store == before)
        self.assertTrue(changed.with_value("b", "size", 1) == store)
        self.assertTrue(store.with_value("b", "lid", FAIL).value("b", "lid") == FAIL)
        self.assertIsNone(store.with_value("c", "of", None).value("c", "of"))
        self.assertTrue(store == before)

    def test_with_value_refuses(self):
        store = Store(BOX, box_things(), "b")
        wrong = {("b", "size"): ["x", True, [1], (1,), 10 ** 30], ("b", "near"): ["c", 1, "zz"], ("b", "lid"): ["b", ["c"]],
                 ("c", "of"): ["c", ("b",)]}
        for (thing, name), values in wrong.items():
            for value in values:
                error = error_of(BadStore, store.with_value, thing, name, value)
                self.assertEqual((error.thing, error.field), (thing, name))
        self.assertTrue(store == Store(BOX, box_things(), "b"))

    def test_equal_stores(self):
        store = Store(pet_schema(), pet_things(), "ann")
        things = dict(reversed(list(pet_things().items())))
        self.assertTrue(store == Store(pet_schema(), things, "ann"))
        self.assertFalse(store != Store(pet_schema(), things, "ann"))
        more = {**pet_things(), "bob": ("person", {"name": "Bob", "pets": [], "likes": None})}
        self.assertTrue(store != Store(pet_schema(), more, "ann"))
        self.assertTrue(Store(pet_schema(), more, "bob") != Store(pet_schema(), more, "ann"))
        self.assertTrue(store != store.with_value("rex", "name", "Rox"))
        self.assertTrue(store != store.with_value("ann", "pets", ["tom", "rex"]))
        self.assertTrue(store.with_value("rex", "name", None) != store.with_value("rex", "name", FAIL))
        self.assertTrue(store != Store(pet_schema().with_shape("person", "likes", "pet"), pet_things(), "ann"))

    def test_names_of_things_do_not_follow_kinds(self):
        store = Store(BOX, {"cap": box_things()["b"], "b": box_things()["b"], "c": box_things()["c"]}, "cap")
        self.assertEqual([store.kind_of("cap"), store.things()], ["box", ["b", "c", "cap"]])

    def test_later_changes_of_arguments(self):
        things = {"a": ("box", {"f": [[1], [2]]}), "b": ("box", {"f": [[]]})}
        schema = Schema({"box": ((), {"f": ("list", ("list", "number"))})}, {}, {}, "box")
        before = copy.deepcopy(things)
        store = Store(schema, things, "a")
        self.assertEqual(things, before)
        things["a"][1]["f"][0].append("wrong")
        things["a"][1]["f"].append(3)
        things["a"][1]["g"] = 4
        things["c"] = None
        self.assertEqual(store.value("a", "f"), [[1], [2]])
        self.assertTrue(store == Store(schema, before, "a"))
        value = [[7]]
        changed = store.with_value("b", "f", value)
        value[0].append(8)
        self.assertEqual(changed.value("b", "f"), [[7]])

    def test_returned_values_are_new(self):
        schema = Schema({"box": ((), {"f": ("list", ("list", "number"))})}, {}, {}, "box")
        inner = [1]
        store = Store(schema, {"a": ("box", {"f": [inner, inner]}), "b": ("box", {"f": [inner]})}, "a")
        changed = store.with_value("b", "f", [])
        store.value("a", "f")[0].append(2)
        store.value("a", "f").append(3)
        store.things().append("c")
        self.assertEqual(store.value("a", "f"), [[1], [1]])
        self.assertEqual(changed.value("a", "f"), [[1], [1]])
        self.assertEqual(store.things(), ["a", "b"])
        first, second = store.value("a", "f")
        self.assertIsNot(first, second)
        self.assertIs(type(store.things()), list)


class Answers(unittest.TestCase):
    """[7.4] and [7.5]."""

    def chain(self, outer, inner, value=None, rows=None):
        """The answer for a box that leads to caps in a list of one of two sorts, whose numbers are 1 and `value`."""
        kinds = {"box": ((), {"caps": outer}), "cap": ((), {"size": inner})}
        schema = Schema(kinds, {}, {}, "box")
        things = {"b": ("box", {"caps": ["c", "d"]}), "c": ("cap", {"size": 1}), "d": ("cap", {"size": value})}
        rows = rows or (field("caps", "k", field("size", "s")),)
        return answer(Question(schema, rows, {}), Store(schema, things, "b"), {})

    def test_examples_of_the_document(self):
        things = {"ann": ("person", {"pets": ["rex", "tom"]}), "rex": ("dog", {"name": "Rex"}), "tom": ("dog", {"name": FAIL})}
        rows = (("field", "pets", "p", (("field", "name", "n", ()),)),)
        for shape, data in [(("list", "dog"), {"p": [{"n": "Rex"}, None]}), (("list", ("sure", "dog")), {"p": None})]:
            schema = Schema({"person": ((), {"pets": shape}), "dog": ((), {"name": ("sure", "text")})}, {}, {}, "person")
            store = Store(schema, things, "ann")
            question = Question(schema, rows, {})
            self.assertEqual(answer(question, store, {}), (data, [("p", 1, "n")]))
            self.assertEqual(reads(question, store, {}), [("ann", "pets"), ("rex", "name"), ("tom", "name")])
        box = Schema({"box": ((), {"size": ("list", "number")})}, {}, {}, "box")
        self.assertEqual(pair_of(box, {"b": ("box", {"size": [1, True]})}, "b"), ("b", "size"))

    def test_no_rows(self):
        store = Store(BOX, box_things(), "b")
        self.assertEqual(answer(asked(BOX, []), store, {}), ({}, []))
        self.assertEqual(answer(asked(BOX, [field("lid", "a"), ("on", "cap", (("kind", "k"),))]), store, {}), ({"a": {}}, []))

    def test_leaves_and_kinds(self):
        store = Store(pet_schema(), pet_things(), "ann")
        name = field("name", "n")
        rows = [name, ("kind", "k"), field("pets", "p", ("kind", "k"), name), field("likes", "l", ("on", "dog", (name,)))]
        data = {"n": "Ann", "k": "person", "p": [{"k": "dog", "n": "Rex"}, {"k": "cat", "n": "Tom"}], "l": {"n": "Rex"}}
        self.assertEqual(answer(asked(pet_schema(), rows), store, {}), (data, []))

    def test_kinds_of_values(self):
        given = answer(asked(BOX, [field("size", "s")]), Store(BOX, box_things(), "b"), {})
        self.assertIs(type(given), tuple)
        self.assertEqual([type(part) for part in given], [dict, list])

    def test_statements_under_flags(self):
        rows = [("if", "f", True, (field("size", "s"),)), ("if", "f", False, (field("near", "s"), ("part", "p")))]
        question = asked(BOX, rows, {"p": ("thing", (("kind", "k"),))})
        store = Store(BOX, box_things(), "b")
        self.assertEqual(answer(question, store, {"f": True}), ({"s": 1}, []))
        self.assertEqual(answer(question, store, {"f": False}), ({"s": {}, "k": "box"}, []))

    def test_rows_are_put_together(self):
        rows = [field("near", "a", field("size", "s")), ("on", "box", (field("near", "a", ("kind", "k")),)), ("part", "p")]
        question = asked(BOX, rows, {"p": ("box", (field("near", "a", field("lid", "l", field("size", "t"))),))})
        data = {"a": {"s": 1, "k": "box", "l": {"t": 2}}}
        self.assertEqual(answer(question, Store(BOX, box_things(), "b"), {}), (data, []))

    def test_members_are_asked_by_their_kind(self):
        rows = [field("one", "o", ("on", "box", (field("size", "b"),)), ("on", "cap", (field("size", "c"),)))]
        store = Store(BOX, box_things(), "b")
        self.assertEqual(answer(asked(BOX, rows), store, {}), ({"o": {"c": 2}}, []))
        self.assertEqual(answer(asked(BOX, rows), store.with_value("b", "one", "b"), {}), ({"o": {"b": 1}}, []))

    def test_empty_values_without_sure(self):
        store = Store(BOX, box_things(), "b").with_value("b", "size", None).with_value("b", "lid", None)
        rows = [field("size", "s"), field("lid", "l", field("size", "s"))]
        self.assertEqual(answer(asked(BOX, rows), store, {}), ({"s": None, "l": None}, []))

    def test_failing_values_without_sure(self):
        store = Store(BOX, box_things(), "b").with_value("b", "size", FAIL).with_value("b", "lid", FAIL)
        rows = [field("size", "s"), field("lid", "l", field("size", "s")), field("size", "a")]
        self.assertEqual(answer(asked(BOX, rows), store, {}), ({"s": None, "l": None, "a": None}, [("a",), ("l",), ("s",)]))

    def test_sure_values_wipe_the_thing(self):
        fault = [("k", 1, "s")]
        for value in (None, FAIL):
            self.assertEqual(self.chain(("list", "cap"), ("sure", "number"), value), ({"k": [{"s": 1}, None]}, fault))
            self.assertEqual(self.chain(("list", ("sure", "cap")), ("sure", "number"), value), ({"k": None}, fault))
            self.assertEqual(self.chain(("sure", ("list", "cap")), ("sure", "number"), value), ({"k": [{"s": 1}, None]}, fault))
            self.assertEqual(self.chain(("sure", ("list", ("sure", "cap"))), ("sure", "number"), value), (None, fault))
        for outer in (("list", "cap"), ("list", ("sure", "cap")), ("sure", ("list", ("sure", "cap")))):
            self.assertEqual(self.chain(outer, "number", None), ({"k": [{"s": 1}, {"s": None}]}, []))
            self.assertEqual(self.chain(outer, "number", FAIL), ({"k": [{"s": 1}, {"s": None}]}, fault))
            self.assertEqual(self.chain(outer, ("sure", "number"), 0), ({"k": [{"s": 1}, {"s": 0}]}, []))

    def test_one_key_that_rises_is_enough(self):
        schema = Schema({"box": ((), {"a": ("sure", "number"), "b": ("sure", "number"), "c": "number"})}, {}, {}, "box")
        for values in itertools.product([1, None, FAIL], repeat=3):
            store = Store(schema, {"t": ("box", dict(zip("abc", values)))}, "t")
            whole = values[0] == 1 and values[1] == 1
            for order in itertools.permutations("abc"):
                data, faults = answer(asked(schema, [field(name, name) for name in order]), store, {})
                self.assertEqual(data, {"a": 1, "b": 1, "c": 1 if values[2] == 1 else None} if whole else None)
                troubles = [name for name, value in zip("abc", values) if value == FAIL or (value is None and name != "c")]
                self.assertEqual(faults, [(name,) for name in troubles])

    def test_nothing_rises_from_what_is_not_asked(self):
        self.assertEqual(self.chain(("sure", ("list", ("sure", "cap"))), ("sure", "number"), None,
                                    (field("caps", "k", ("kind", "a")),)), ({"k": [{"a": "cap"}] * 2}, []))

    def test_the_empty_list_and_zero_and_no_text_are_not_empty(self):
        schema = Schema({"box": ((), {"a": ("sure", ("list", "box")), "b": ("sure", "number"), "c": ("sure", "text")})}, {}, {}, "box")
        store = Store(schema, {"b": ("box", {"a": [], "b": 0, "c": ""})}, "b")
        rows = [field("a", "a", ("kind", "k")), field("b", "b"), field("c", "c")]
        self.assertEqual(answer(asked(schema, rows), store, {}), ({"a": [], "b": 0, "c": ""}, []))

    def test_lists_of_lists(self):
        values = [
            [[1], [None]], [[1], [FAIL]], [[1], None], [FAIL, [1]], [[None], [FAIL], None, FAIL], None, FAIL, [], [[]],
        ]
        for wrappers in itertools.product([False, True], repeat=3):
            shape = ("number" if not wrappers[2] else ("sure", "number"))
            shape = ("list", shape) if not wrappers[1] else ("sure", ("list", shape))
            shape = ("list", shape) if not wrappers[0] else ("sure", ("list", shape))
            if wrappers == (True, True, True):
                # This shape would have five wrappers.
                continue
            schema = Schema({"box": ((), {"f": shape})}, {}, {}, "box")
            for value in values:
                with self.subTest(shape=shape, value=value):
                    given = answer(asked(schema, [field("f", "k")]), Store(schema, {"b": ("box", {"f": value})}, "b"), {})
                    self.assertEqual(given, self.expected(shape, wrappers, value))

    def expected(self, shape, wrappers, value):
        """The answer, level by level."""
        faults = []

        def level(at, value, way):
            if value is None or value == FAIL:
                if value == FAIL or wrappers[at]:
                    faults.append(way)
                return None
            if at == 2:
                return value
            results = [level(at + 1, item, way + (index,)) for index, item in enumerate(value)]
            return None if wrappers[at + 1] and None in results else results

        data = {"k": level(0, value, ("k",))}
        return (None if wrappers[0] and data["k"] is None else data), sorted(faults)

    def test_a_sure_list_of_a_sure_list(self):
        shape = ("sure", ("list", ("sure", ("list", "number"))))
        schema = Schema({"box": ((), {"f": shape})}, {}, {}, "box")
        question = asked(schema, [field("f", "k")])

        def given(value):
            return answer(question, Store(schema, {"b": ("box", {"f": value})}, "b"), {})

        self.assertEqual(given([[1], [None, FAIL]]), ({"k": [[1], [None, None]]}, [("k", 1, 1)]))
        self.assertEqual(given([[1], None]), (None, [("k", 1)]))
        self.assertEqual(given([FAIL, [FAIL]]), (None, [("k", 0), ("k", 1, 0)]))

    def test_rising_to_each_height(self):
        sure, loose = ("sure", "box"), "box"
        for shapes in itertools.product([sure, loose], repeat=3):
            kinds = {"box": ((), {"a": shapes[0], "b": shapes[1], "c": shapes[2], "n": ("sure", "number")})}
            schema = Schema(kinds, {}, {}, "box")
            things = {"t": ("box", {"a": "t", "b": "t", "c": "t", "n": None})}
            rows = [field("a", "a", field("b", "b", field("c", "c", field("n", "n"))))]
            data = None
            for name, shape in zip("cba", reversed(shapes)):
                data = None if data is None and shape == sure else {name: data}
            self.assertEqual(answer(asked(schema, rows), Store(schema, things, "t"), {}), (data, [("a", "b", "c", "n")]))

    def test_faults_inside_what_becomes_empty(self):
        kinds = {"box": ((), {"a": ("sure", "number"), "b": ("sure", "text"), "c": "box", "d": ("list", ("sure", "box"))})}
        schema = Schema(kinds, {}, {}, "box")
        things = {"t": ("box", {"a": None, "b": FAIL, "c": "t", "d": ["t", None, FAIL, "u"]}),
                  "u": ("box", {"a": 1, "b": "", "c": FAIL, "d": []})}
        rows = [field("d", "d", field("b", "b"), field("a", "a"), field("c", "c")), field("b", "b"), field("a", "a")]
        faults = [("a",), ("b",), ("d", 0, "a"), ("d", 0, "b"), ("d", 1), ("d", 2), ("d", 3, "c")]
        self.assertEqual(answer(asked(schema, rows), Store(schema, things, "t"), {}), (None, faults))

    def test_what_became_empty_is_no_fault_itself(self):
        kinds = {"box": ((), {"a": ("sure", "box"), "n": ("sure", "number")})}
        schema = Schema(kinds, {}, {}, "box")
        store = Store(schema, {"t": ("box", {"a": "t", "n": None})}, "t")
        rows = [field("a", "a", field("a", "a", field("n", "n")))]
        self.assertEqual(answer(asked(schema, rows), store, {}), (None, [("a", "a", "n")]))

    def test_ways_ascend(self):
        shape = ("list", ("list", "number"))
        schema = Schema({"box": ((), {"f": shape, "g": "number"})}, {}, {}, "box")
        value = [[FAIL, 1, FAIL], FAIL, [FAIL] * 6, [], [2], [FAIL]]
        store = Store(schema, {"t": ("box", {"f": value, "g": FAIL})}, "t")
        faults = [("a",), ("ab",), ("b", 0, 0), ("b", 0, 2), ("b", 1), *[("b", 2, at) for at in range(6)], ("b", 5, 0), ("c",)]
        rows = [field("g", "c"), field("f", "b"), field("g", "ab"), field("g", "a")]
        self.assertEqual(answer(asked(schema, rows), store, {})[1], faults)

    def test_things_that_lead_to_themselves(self):
        store = Store(BOX, box_things(), "b")
        rows = field("size", "n")
        for _ in range(4):
            rows = field("near", "n", rows)
        data = {"n": {"n": {"n": {"n": {"n": 1}}}}}
        self.assertEqual(answer(asked(BOX, [rows]), store, {}), (data, []))

    def test_the_same_thing_at_several_places(self):
        schema = Schema({"box": ((), {"all": ("list", ("list", "box")), "n": ("sure", "number")})}, {}, {}, "box")
        store = Store(schema, {"t": ("box", {"all": [["t", "t"], ["t"]], "n": 1})}, "t")
        rows = [field("all", "x", field("n", "n"), field("all", "y")), field("all", "z", field("n", "n"))]
        one = {"n": 1, "y": [[{}, {}], [{}]]}
        data, faults = answer(asked(schema, rows), store, {})
        self.assertEqual(data, {"x": [[one, one], [one]], "z": [[{"n": 1}] * 2, [{"n": 1}]]})
        data["x"][0][0]["n"] = 5
        data["x"][0][0]["y"][0].append(5)
        data["z"][0].clear()
        self.assertEqual(data["x"], [[{"n": 5, "y": [[{}, {}, 5], [{}]]}, one], [one]])
        faults.append("more")
        self.assertEqual(answer(asked(schema, rows), store, {}), ({"x": [[one, one], [one]], "z": [[{"n": 1}] * 2, [{"n": 1}]]}, []))
        self.assertTrue(store == Store(schema, {"t": ("box", {"all": [["t", "t"], ["t"]], "n": 1})}, "t"))

    def test_lists_of_leaves_are_new(self):
        schema = Schema({"box": ((), {"f": ("list", ("list", "number"))})}, {}, {}, "box")
        store = Store(schema, {"t": ("box", {"f": [[1]]})}, "t")
        prepared = Prepared(asked(schema, [field("f", "a"), field("f", "b")]), {})
        data, _ = prepared(store)
        data["a"][0].append(2)
        data["a"].append(3)
        self.assertEqual(data["b"], [[1]])
        self.assertEqual(prepared(store)[0], {"a": [[1]], "b": [[1]]})
        self.assertEqual(store.value("t", "f"), [[1]])

    def test_one_field_under_several_keys(self):
        kinds = {"box": ((), {"a": "box", "n": ("sure", "number")})}
        schema = Schema(kinds, {}, {}, "box")
        store = Store(schema, {"t": ("box", {"a": "u", "n": 1}), "u": ("box", {"a": "t", "n": FAIL})}, "t")
        rows = [field("a", "x", field("n", "n")), field("a", "y", ("kind", "k"))]
        self.assertEqual(answer(asked(schema, rows), store, {}), ({"x": None, "y": {"k": "box"}}, [("x", "n")]))


class ClashesOfAnswers(unittest.TestCase):
    """[7.6]."""

    def setUp(self):
        kinds = {"box": ((), {"all": ("list", ("sure", "thing")), "n": ("sure", "number"), "near": "box"}),
                 "cap": ((), {"n": "number", "of": "box"})}
        self.schema = Schema(kinds, {}, {"thing": ("box", "cap")}, "box")
        things = {"b": ("box", {"all": ["c", "b", "c", "e"], "n": 1, "near": "b"}), "c": ("cap", {"n": 2, "of": "e"}),
                  "e": ("box", {"all": [], "n": None, "near": None})}
        self.store = Store(self.schema, things, "b")

    def way_of(self, rows, store=None, flags=None):
        question, store, flags = asked(self.schema, rows), store or self.store, flags or {}
        prepared = Prepared(question, flags)
        ways = [error_of(Clash, call, *arguments).way for call, arguments in [
            (answer, (question, store, flags)), (reads, (question, store, flags)), (prepared, (store,))]]
        self.assertEqual(ways[0], ways[1])
        self.assertEqual(ways[0], ways[2])
        self.assertEqual(prepared.answered, 0)
        self.assertIs(type(ways[0]), tuple)
        return ways[0]

    def test_at_the_first_thing(self):
        self.assertEqual(self.way_of([("kind", "k"), field("n", "k")]), ("k",))
        self.assertEqual(self.way_of([field("n", "x"), field("near", "x"), ("kind", "a"), field("n", "a")]), ("a",))

    def test_least_way_with_indexes(self):
        boxes = ("on", "box", (field("n", "x"), ("kind", "x")))
        caps = ("on", "cap", (field("n", "y"), ("kind", "y")))
        self.assertEqual(self.way_of([field("all", "l", boxes)]), ("l", 1, "x"))
        self.assertEqual(self.way_of([field("all", "l", boxes, caps)]), ("l", 0, "y"))
        self.assertEqual(self.way_of([field("all", "l", boxes), field("all", "k", boxes), ("kind", "z"), field("n", "z")]), ("k", 1, "x"))
        deep = ("on", "cap", (field("of", "o", field("near", "z"), ("kind", "z")),))
        self.assertEqual(self.way_of([field("all", "l", boxes, deep)]), ("l", 0, "o", "z"))
        self.assertEqual(self.way_of([field("all", "l", boxes, ("on", "cap", (("kind", "n"), field("n", "n"))), deep)]), ("l", 0, "n"))

    def test_things_that_the_answer_does_not_come_to(self):
        rows = [field("all", "l", ("on", "box", (field("near", "m", field("n", "x"), ("kind", "x")),)))]
        self.assertEqual(self.way_of(rows), ("l", 1, "m", "x"))
        for value in ([], ["c"], ["e"], None, FAIL, ["c", None, FAIL, "e"]):
            store = self.store.with_value("b", "all", value)
            answer(asked(self.schema, rows), store, {})
            reads(asked(self.schema, rows), store, {})
        for value in (None, FAIL):
            answer(asked(self.schema, rows), self.store.with_value("b", "near", value), {})

    def test_clashes_inside_what_becomes_empty(self):
        rows = [field("all", "l", field_of_all(), ("on", "cap", (field("of", "o", ("kind", "x"), field("near", "x")),)))]
        self.assertEqual(self.way_of(rows), ("l", 0, "o", "x"))
        store = self.store.with_value("b", "n", None)
        self.assertEqual(self.way_of([field("n", "n"), *rows], store), ("l", 0, "o", "x"))

    def test_nothing_is_asked_below_a_clashing_key(self):
        rows = [field("near", "x", ("kind", "a"), field("n", "a")), field("all", "x", ("kind", "a"), field_of_all("a"))]
        self.assertEqual(self.way_of(rows), ("x",))
        rows = [field("near", "y", field("near", "x", ("kind", "a"), field("n", "a")), ("kind", "x"))]
        self.assertEqual(self.way_of(rows), ("y", "x"))

    def test_only_under_some_flags(self):
        rows = [field("n", "x"), ("if", "f", True, (("kind", "x"),))]
        self.assertEqual(self.way_of(rows, flags={"f": True}), ("x",))
        self.assertEqual(answer(asked(self.schema, rows), self.store, {"f": False}), ({"x": 1}, []))


def field_of_all(key="n"):
    return ("on", "box", (field("n", key),))


class Reads(unittest.TestCase):
    """[7.7]."""

    def pairs(self, rows, things=None, parts=None, flags=None, schema=BOX, first="b"):
        return reads(asked(schema, rows, parts), Store(schema, things or box_things(), first), flags or {})

    def test_nothing_is_read(self):
        self.assertEqual(self.pairs([]), [])
        self.assertEqual(self.pairs([("kind", "k"), ("on", "cap", (field("size", "s"),))]), [])
        self.assertIs(type(self.pairs([])), list)

    def test_fields_of_things(self):
        rows = [field("size", "s"), field("lid", "l", ("kind", "k"), field("of", "o", field("near", "n")))]
        self.assertEqual(self.pairs(rows), [("b", "lid"), ("b", "near"), ("b", "size"), ("c", "of")])

    def test_empty_values_are_read(self):
        things = box_things()
        things["b"][1].update(lid=None, near=FAIL)
        rows = [field("lid", "l", field("size", "s")), field("near", "n", field("size", "s"))]
        self.assertEqual(self.pairs(rows, things), [("b", "lid"), ("b", "near")])

    def test_entries_that_meet_under_one_key(self):
        rows = [field("near", "a", field("size", "s")), field("near", "a", field("lid", "l", field("size", "s")))]
        self.assertEqual(self.pairs(rows), [("b", "lid"), ("b", "near"), ("b", "size"), ("c", "size")])

    def test_under_flags(self):
        rows = [("if", "f", True, (field("size", "s"),)), ("if", "f", False, (field("lid", "l"),))]
        self.assertEqual(self.pairs(rows, flags={"f": True}), [("b", "size")])
        self.assertEqual(self.pairs(rows, flags={"f": False}), [("b", "lid")])

    def test_inside_what_is_wiped(self):
        kinds = {"box": ((), {"n": ("sure", "number"), "a": ("sure", "box"), "l": ("list", ("sure", "box")), "z": "text"})}
        schema = Schema(kinds, {}, {}, "box")
        things = {"b": ("box", {"n": None, "a": "c", "l": ["b", None, "c"], "z": ""}),
                  "c": ("box", {"n": FAIL, "a": None, "l": [], "z": ""})}
        rows = [field("n", "n"), field("l", "x", field("n", "n"), field("a", "a", field("z", "z")))]
        expected = [("b", "a"), ("b", "l"), ("b", "n"), ("c", "a"), ("c", "n"), ("c", "z")]
        self.assertEqual(self.pairs(rows, things, schema=schema), expected)

    def test_only_things_that_the_answer_comes_to(self):
        rows = [field("one", "o", ("on", "box", (field("size", "s"),)), ("on", "cap", (field("of", "f"),)))]
        self.assertEqual(self.pairs(rows), [("b", "one"), ("c", "of")])
        things = {**box_things(), "d": box_things()["c"], "a": box_things()["b"]}
        self.assertEqual(self.pairs(rows, things), [("b", "one"), ("c", "of")])

    def test_the_list_is_new(self):
        store, question = Store(BOX, box_things(), "b"), asked(BOX, [field("size", "s")])
        reads(question, store, {}).append("more")
        self.assertEqual(reads(question, store, {}), [("b", "size")])


class ErrorsOfAnswers(unittest.TestCase):
    """The order of the errors, and Prepared."""

    def test_order(self):
        store, other = Store(BOX, box_things(), "b"), Store(pet_schema(), pet_things(), "ann")
        question = asked(BOX, [("if", "f", True, (("kind", "k"),)), field("size", "k")])
        for call in (answer, reads):
            error_of(UnlikeSchemas, call, question, other, {})
            error_of(UnlikeSchemas, call, question, other, {"f": True})
            error_of(BadFlags, call, question, store, {})
            error_of(BadFlags, call, question, store, {"f": 1})
            error_of(BadFlags, call, question, store, {"f": True, "g": True})
            self.assertEqual(error_of(Clash, call, question, store, {"f": True}).way, ("k",))
            call(question, store, {"f": False})
        prepared = Prepared(question, {"f": True})
        error_of(UnlikeSchemas, prepared, other)
        error_of(Clash, prepared, store)

    def test_unlike_schemas_before_flags_of_every_kind(self):
        other = Store(pet_schema(), pet_things(), "ann")
        for flags in odd_values():
            error_of(UnlikeSchemas, answer, asked(BOX, []), other, flags)
            error_of(UnlikeSchemas, reads, asked(BOX, []), other, flags)

    def test_equal_schemas_are_enough(self):
        kinds = {"box": (("f", "g"), {"a": "u", "b": "text"})}
        schemas = [Schema(kinds, {"f": {"a": "u"}, "g": {"b": "text"}}, {"u": ("box",)}, "box") for _ in range(2)]
        store = Store(schemas[0], {"b": ("box", {"a": "b", "b": "x"})}, "b")
        self.assertEqual(answer(asked(schemas[1], [field("b", "b")]), store, {}), ({"b": "x"}, []))

    def test_schemas_that_differ_in_a_sure(self):
        schema = BOX.with_shape("box", "size", ("sure", "number"))
        error_of(UnlikeSchemas, answer, asked(schema, []), Store(BOX, box_things(), "b"), {})

    def test_bad_flags(self):
        store = Store(BOX, box_things(), "b")
        question = asked(BOX, [("if", "f", True, ())])
        for flags in [*odd_values(), {"f": 1}, {"f": None}, {"f": True, "g": False}, [("f", True)], "f", {"f"}]:
            error_of(BadFlags, answer, question, store, flags)
            error_of(BadFlags, reads, question, store, flags)
            error_of(BadFlags, Prepared, question, flags)

    def test_prepared_counts_the_answers_that_were_given(self):
        question = asked(BOX, [("if", "f", True, (field("size", "s"), field("one", "o", *both_markers())))])
        prepared = Prepared(question, {"f": True})
        self.assertEqual(prepared.answered, 0)
        store = Store(BOX, box_things(), "b")
        good = store.with_value("b", "one", None)
        self.assertEqual(prepared(good), ({"s": 1, "o": None}, []))
        self.assertEqual(prepared.answered, 1)
        error_of(Clash, prepared, store)
        self.assertEqual(prepared.answered, 1)
        error_of(UnlikeSchemas, prepared, Store(pet_schema(), pet_things(), "ann"))
        self.assertEqual(prepared.answered, 1)
        self.assertEqual(prepared(good.with_value("b", "size", FAIL)), ({"s": None, "o": None}, [("s",)]))
        self.assertEqual(prepared(good), answer(question, good, {"f": True}))
        self.assertEqual(prepared.answered, 3)
        self.assertEqual(Prepared(question, {"f": True}).answered, 0)

    def test_later_changes_of_the_flags(self):
        flags = {"f": True}
        prepared = Prepared(asked(BOX, [("if", "f", True, (("kind", "k"),))]), flags)
        flags["f"] = False
        flags["g"] = True
        self.assertEqual(prepared(Store(BOX, box_things(), "b")), ({"k": "box"}, []))

    def test_arguments_stay(self):
        store, question, flags = Store(BOX, box_things(), "b"), asked(BOX, [("if", "f", True, (("kind", "k"),))]), {"f": True}
        answer(question, store, flags)
        reads(question, store, flags)
        self.assertEqual(flags, {"f": True})
        self.assertTrue(store == Store(BOX, box_things(), "b"))
        self.assertTrue(question == asked(BOX, [("if", "f", True, (("kind", "k"),))]))


def both_markers():
    return [("on", "cap", (("kind", "x"), field("size", "x")))]


if __name__ == "__main__":
    unittest.main()
