"""Points [2] and [10.1] to [10.7], and the interface of nestedwishes/risings.py."""

import itertools
import unittest

from nestedwishes.answers import Store, answer
from nestedwishes.errors import BadFlags, BadNumber, Clash, TooMany
from nestedwishes.questions import Question
from nestedwishes.risings import held, rises, wipes
from nestedwishes.schemas import Schema
from tests.helpers import box_schema, error_of, odd_values

BOX = box_schema()
SHAPES = [
    # Each shape with the words that tell if it is sure, and if it is wholly sure.
    ("box", False, False), (("sure", "box"), True, True), (("list", "box"), False, False),
    (("list", ("sure", "box")), False, False), (("sure", ("list", "box")), True, False),
    (("sure", ("list", ("sure", "box"))), True, True), (("list", ("list", "box")), False, False),
    (("sure", ("list", ("list", "box"))), True, False), (("sure", ("list", ("list", ("sure", "box")))), True, False),
    (("sure", ("list", ("sure", ("list", "box")))), True, False), (("list", ("sure", ("list", ("sure", "box")))), False, False),
    (("list", ("list", ("list", ("sure", "box")))), False, False), (("sure", ("list", ("list", ("list", "box")))), True, False),
]


def field(name, key, *rows):
    return ("field", name, key, tuple(rows))


def on(base, *rows):
    return ("on", base, tuple(rows))


def asked_if(flag, wanted, *rows):
    return ("if", flag, wanted, tuple(rows))


def chain_schema(*shapes):
    """A box whose fields a, b, c, d have these shapes, and a sure number n and a number m."""
    fields = {name: shape for name, shape in zip("abcd", shapes)}
    more = {"n": ("sure", "number")} if len(fields) == 4 else {"n": ("sure", "number"), "m": "number"}
    return Schema({"box": ((), {**fields, **more})}, {}, {}, "box")


def chain(names, schema, last="n"):
    """A question that goes along the fields to a number."""
    rows = field(last, last)
    for name in reversed(names):
        rows = field(name, name, rows)
    return Question(schema, (rows,), {})


class Rises(unittest.TestCase):
    """[10.1] to [10.3]."""

    def test_example_of_the_interface(self):
        kinds = {"box": ((), {"size": ("sure", "number"), "lid": ("sure", "cap")}), "cap": ((), {"of": "box"})}
        schema = Schema(kinds, {}, {}, "box")
        rows = (("field", "lid", "a", (("field", "of", "b", (("field", "size", "c", ()),)),)),)
        question = Question(schema, rows, {})
        self.assertEqual(rises(question, {}), [((), "a", 0), ((("a", "cap"),), "b", 2), ((("a", "cap"), ("b", "box")), "c", 2)])
        self.assertEqual(wipes(question, {}, depth=3), [((), "a"), ((("a", "cap"), ("b", "box")), "c")])
        self.assertEqual(held(question, {}, depth=3), [("box", "lid"), ("box", "size")])

    def test_no_fields(self):
        self.assertEqual(rises(Question(BOX, (), {}), {}), [])
        self.assertEqual(rises(Question(BOX, (("kind", "k"), on("cap", field("of", "o"))), {}), {}), [])
        self.assertIs(type(rises(Question(BOX, (), {}), {})), list)

    def test_fields_at_the_root(self):
        for shape, sure, _ in SHAPES:
            question = Question(chain_schema(shape), (field("a", "x"),), {})
            self.assertEqual(rises(question, {}), [((), "x", 0 if sure else 1)])
        leaves = [("number", 1), ("text", 1), (("sure", "text"), 0), (("sure", ("list", "text")), 0), (("list", ("sure", "text")), 1),
                  (("sure", ("list", ("sure", "text"))), 0)]
        for shape, up in leaves:
            question = Question(chain_schema(shape), (field("a", "x"), ("kind", "k")), {})
            self.assertEqual(rises(question, {}), [((), "x", up)])

    def test_up_for_each_height(self):
        for (first, _, wholly), (second, sure, also_wholly) in itertools.product(SHAPES, repeat=2):
            schema = chain_schema(first, second)
            ups = [0 if first[0] == "sure" else 1]
            left = 0 if wholly else 1
            ups.append(left if sure else 2)
            ups.append(left if also_wholly else 2)
            expected = [((), "a", ups[0]), ((("a", "box"),), "b", ups[1]), ((("a", "box"), ("b", "box")), "n", ups[2])]
            self.assertEqual(rises(chain("ab", schema), {}), expected)
            expected[-1] = (expected[-1][0], "m", 3)
            self.assertEqual(rises(chain("ab", schema, "m"), {}), expected)

    def test_up_at_four_pairs(self):
        for shapes in itertools.product([("sure", "box"), "box", ("sure", ("list", "box"))], repeat=4):
            found = rises(chain("abcd", chain_schema(*shapes)), {})
            up = max([at + 1 for at in range(4) if shapes[at] != ("sure", "box")], default=0)
            self.assertEqual(found[-1], ((("a", "box"), ("b", "box"), ("c", "box"), ("d", "box")), "n", up))
            self.assertEqual(len(found), 5)

    def test_up_is_what_the_answer_leaves(self):
        for shapes in itertools.product([shape for shape, _, _ in SHAPES[:7]], repeat=3):
            schema = chain_schema(*shapes)
            things = {name: ("box", {"a": None, "b": None, "c": None, "n": 1, "m": 2}) for name in "tuvw"}
            for at in range(3):
                things["tuvw"[at]][1]["abc"[at]] = wrapped(shapes[at], "tuvw"[at + 1])
            things["w"][1]["n"] = ("fail",)
            question = chain("abc", schema)
            data, _ = answer(question, Store(schema, things, "t"), {})
            left = 0
            for key in "abcn":
                while isinstance(data, list):
                    data = data[0]
                if data is None:
                    break
                left, data = left + 1, data[key]
            self.assertEqual(rises(question, {})[-1][2], left)

    def test_each_member_and_each_key(self):
        kinds = {"box": ((), {"one": ("sure", "thing"), "n": ("sure", "number")}), "cap": ((), {"n": "number"})}
        schema = Schema(kinds, {}, {"thing": ("box", "cap")}, "box")
        rows = (field("one", "y", on("cap", field("n", "n")), on("box", field("n", "m"), field("n", "l"))), field("n", "x"), ("kind", "z"))
        expected = [((), "x", 0), ((), "y", 0), ((("y", "box"),), "l", 0), ((("y", "box"),), "m", 0), ((("y", "cap"),), "n", 2)]
        self.assertEqual(rises(Question(schema, rows, {}), {}), expected)

    def test_under_flags(self):
        question = Question(chain_schema("box"), (asked_if("f", True, field("a", "a")), asked_if("f", False, field("n", "n"))), {})
        self.assertEqual(rises(question, {"f": True}), [((), "a", 1)])
        self.assertEqual(rises(question, {"f": False}), [((), "n", 0)])
        self.assertEqual(wipes(question, {"f": True}), [])
        self.assertEqual(wipes(question, {"f": False}), [((), "n")])
        self.assertEqual(held(question, {"f": True}), [])
        self.assertEqual(held(question, {"f": False}), [("box", "n")])


def wrapped(shape, thing):
    if isinstance(shape, tuple):
        inner = wrapped(shape[1], thing)
        return [inner] if shape[0] == "list" else inner
    return thing


class Wipes(unittest.TestCase):
    """[10.4]."""

    def test_depths(self):
        question = chain("abc", chain_schema("box", ("sure", "box"), ("sure", "box")))
        ways = [tuple((name, "box") for name in "abc"[:many]) for many in range(4)]
        self.assertEqual(rises(question, {}), [(ways[0], "a", 1), (ways[1], "b", 1), (ways[2], "c", 1), (ways[3], "n", 1)])
        self.assertEqual(wipes(question, {}), [])
        self.assertEqual(wipes(question, {}, depth=0), [])
        self.assertEqual(wipes(question, {}, depth=1), [])
        for depth in (2, 3, 4, 5, 10):
            self.assertEqual(wipes(question, {}, depth=depth), [(ways[1], "b"), (ways[2], "c"), (ways[3], "n")])

    def test_up_less_than_depth(self):
        question = chain("abc", chain_schema("box", "box", ("sure", "box")))
        ways = [tuple((name, "box") for name in "abc"[:many]) for many in range(4)]
        self.assertEqual(wipes(question, {}, depth=2), [])
        self.assertEqual(wipes(question, {}, depth=3), [(ways[2], "c"), (ways[3], "n")])
        self.assertEqual(wipes(question, {}, depth=10), [(ways[2], "c"), (ways[3], "n")])

    def test_depth_is_one_if_it_is_not_told(self):
        question = chain("a", chain_schema(("sure", "box")))
        self.assertEqual(wipes(question, {}), [((), "a"), ((("a", "box"),), "n")])
        self.assertEqual(wipes(question, {}, depth=1), wipes(question, {}))
        self.assertEqual(wipes(question, {}, depth=0), [])
        self.assertIs(type(wipes(question, {})), list)

    def test_sorted(self):
        schema = chain_schema(("sure", "box"))
        rows = (field("n", "z"), field("a", "b", field("n", "n")), field("a", "a", field("n", "y"), field("n", "x")), field("n", "c"))
        expected = [((), "a"), ((), "b"), ((), "c"), ((), "z"), ((("a", "box"),), "x"), ((("a", "box"),), "y"), ((("b", "box"),), "n")]
        self.assertEqual(wipes(Question(schema, rows, {}), {}), expected)

    def test_results_are_new(self):
        question = chain("a", chain_schema(("sure", "box")))
        for call in (rises, wipes, held):
            expected = call(question, {})
            call(question, {}).clear()
            self.assertEqual(call(question, {}), expected)


class Held(unittest.TestCase):
    """[10.5] and [10.6]."""

    def assert_held(self, expected, question, **more):
        depth = more.get("depth", 1)
        given = held(question, {}, **more)
        self.assertEqual(given, expected)
        if expected is not None:
            self.assertIs(type(given), list)
            self.assertEqual(wipes(self.changed(question, given), {}, depth=depth), [])

    def changed(self, question, changes):
        schema = question.schema
        for kind, name in changes:
            shape = schema.shape_of(kind, name)
            self.assertEqual(shape[0], "sure")
            schema = schema.with_shape(kind, name, shape[1])
        return Question(schema, question.rows, question.parts())

    def test_nothing_to_hold(self):
        self.assert_held([], Question(BOX, (field("size", "s"),), {}))
        for most in range(4):
            self.assert_held([], Question(BOX, (field("size", "s"),), {}), most=most)
            self.assert_held([], chain("ab", chain_schema(("sure", "box"), ("sure", "box"))), depth=0, most=most)

    def test_one_change_for_each_field_at_the_root(self):
        schema = Schema({"box": ((), {"a": ("sure", "number"), "b": ("sure", "text"), "c": ("sure", ("list", "box")), "d": "text"})},
                        {}, {}, "box")
        rows = tuple(field(name, name) for name in "dcba")
        self.assert_held([("box", "a"), ("box", "b"), ("box", "c")], Question(schema, rows, {}))
        self.assert_held(None, Question(schema, rows, {}), most=2)
        self.assert_held([("box", "a"), ("box", "c")], Question(schema, rows[:2] + rows[3:], {}), most=2)
        self.assert_held(None, Question(schema, rows[:2] + rows[3:], {}), most=1)
        self.assert_held([("box", "b")], Question(schema, rows[2:3], {}), most=1)
        self.assert_held(None, Question(schema, rows[2:3], {}), most=0)

    def test_more_than_three(self):
        schema = Schema({"box": ((), {name: ("sure", "number") for name in "abcd"})}, {}, {}, "box")
        self.assert_held(None, Question(schema, tuple(field(name, name) for name in "abcd"), {}))
        self.assert_held([("box", "a"), ("box", "b"), ("box", "d")], Question(schema, tuple(field(name, name) for name in "abd"), {}))

    def test_a_change_on_the_way_helps(self):
        kinds = {"box": ((), {"a": ("sure", "cap"), "z": ("sure", "number")}), "cap": ((), {"b": ("sure", "number"), "c": ("sure", "text")})}
        schema = Schema(kinds, {}, {}, "box")
        rows = (field("a", "a", field("b", "b"), field("c", "c")),)
        self.assert_held([("box", "a")], Question(schema, rows, {}), most=1)
        self.assert_held(None, Question(schema, rows, {}), depth=2, most=2)
        self.assert_held([("box", "a"), ("cap", "b"), ("cap", "c")], Question(schema, rows, {}), depth=2)
        self.assert_held([("box", "a"), ("box", "z")], Question(schema, rows + (field("z", "z"),), {}))

    def test_the_fewest_changes_come_before_the_least_list(self):
        kinds = {"box": ((), {"a": ("sure", ("list", "cap")), "z": "pin", "m": "cap"}), "cap": ((), {"a": ("sure", "pin")}),
                 "pin": ((), {"a": ("sure", "number"), "b": ("sure", "number")})}
        schema = Schema(kinds, {}, {}, "box")
        inner = field("a", "c", field("a", "d"), field("b", "e"))
        question = Question(schema, (field("m", "b", inner),), {})
        self.assert_held([("cap", "a")], question, depth=2)
        self.assert_held([("cap", "a"), ("pin", "a"), ("pin", "b")], question, depth=3)

    def test_the_least_list(self):
        kinds = {"box": ((), {"m": "cap"}), "cap": ((), {"x": ("sure", "pin"), "y": ("sure", "pin")}), "pin": ((), {"z": ("sure", "number")})}
        schema = Schema(kinds, {}, {}, "box")
        question = Question(schema, (field("m", "m", field("x", "x", field("z", "z"))),), {})
        self.assertEqual(wipes(question, {}, depth=2), [((("m", "cap"),), "x"), ((("m", "cap"), ("x", "pin")), "z")])
        self.assert_held([("cap", "x")], question, depth=2)
        kinds["cap"] = ((), {"x": ("sure", "pin"), "y": ("sure", ("list", "pin"))})
        question = Question(Schema(kinds, {}, {}, "box"), (field("m", "m", field("y", "y", field("z", "z"))),), {})
        self.assert_held([("cap", "y")], question, depth=2)
        self.assert_held([("cap", "y"), ("pin", "z")], question, depth=3)

    def test_the_least_list_of_several(self):
        kinds = {"root": ((), {"u": "b"}), "b": ((), {"v": ("sure", "a")}), "a": ((), {"w": ("sure", "c")}), "c": ((), {"x": ("sure", "text")})}
        rows = (field("u", "u", field("v", "v", field("w", "w", field("x", "x")))),)
        self.assert_held([("b", "v")], Question(Schema(kinds, {}, {}, "root"), rows, {}), depth=2)
        self.assert_held([("a", "w"), ("b", "v")], Question(Schema(kinds, {}, {}, "root"), rows, {}), depth=3)
        kinds["b"] = ((), {"v": "a"})
        self.assert_held([("a", "w")], Question(Schema(kinds, {}, {}, "root"), rows, {}), depth=3)
        self.assert_held([("a", "w"), ("c", "x")], Question(Schema(kinds, {}, {}, "root"), rows, {}), depth=4)

    def test_two_lists_of_the_same_length(self):
        # Of two fields on one way each change is enough; the least one counts.
        kinds = {"root": ((), {"u": ("list", "d")}), "d": ((), {"v": ("sure", "c"), "y": ("sure", "b")}),
                 "c": ((), {"w": ("sure", "b")}), "b": ((), {"x": ("sure", "number")})}
        schema = Schema(kinds, {}, {}, "root")
        alone = (field("u", "u", field("v", "v", field("w", "w", field("x", "x")))),)
        self.assertEqual(len(wipes(Question(schema, alone, {}), {}, depth=10)), 3)
        rows = (field("u", "u", field("v", "v", field("w", "w", field("x", "x"))), field("y", "y", field("x", "x"))),)
        self.assert_held([("d", "v"), ("d", "y")], Question(schema, rows, {}), depth=2)
        self.assert_held(None, Question(schema, rows, {}), depth=3)
        self.assert_held([("b", "x"), ("c", "w"), ("d", "v")], Question(schema, alone, {}), depth=4)

    def test_one_change_for_linked_kinds_and_their_faces(self):
        shape = ("sure", "number")
        kinds = {"c": (("f",), {"x": shape}), "b": (("f", "g"), {"x": shape}), "a": (("g",), {"x": shape}), "d": ((), {"x": shape, "all": "u"})}
        schema = Schema(kinds, {"f": {"x": shape}, "g": {"x": shape}}, {"u": ("a", "b", "c", "d")}, "d")
        self.assertEqual(schema.linked("c", "x"), ["a", "b", "c"])
        at = {kind: Question(schema, (field("all", "l", on(kind, field("x", "x"))),), {}) for kind in "abcd"}
        for kind in "abc":
            self.assert_held([("a", "x")], at[kind], depth=2)
        self.assert_held([("d", "x")], at["d"], depth=2)
        both = Question(schema, (field("all", "l", on("c", field("x", "x")), on("a", field("x", "x")), on("f", field("x", "y"))),), {})
        self.assert_held([("a", "x")], both, depth=2, most=1)
        every = Question(schema, (field("all", "l", *[on(kind, field("x", "x")) for kind in "abcd"]),), {})
        self.assert_held([("a", "x"), ("d", "x")], every, depth=2)

    def test_a_change_helps_several_fields(self):
        schema = chain_schema(("sure", "box"))
        rows = (field("a", "a", field("a", "b", field("a", "c", field("n", "n")), field("n", "n"))),)
        self.assert_held([("box", "a")], Question(schema, rows, {}))
        self.assert_held([("box", "a"), ("box", "n")], Question(schema, rows, {}), depth=5)
        self.assert_held(None, Question(schema, rows, {}), depth=5, most=1)

    def test_a_change_takes_one_sure_away(self):
        schema = chain_schema(("sure", ("list", ("sure", "box"))))
        question = chain("a", schema)
        self.assert_held([("box", "a")], question)
        self.assertEqual(self.changed(question, [("box", "a")]).schema.shape_of("box", "a"), ("list", ("sure", "box")))

    def wide(self, many):
        """A question with so many sure numbers at its root, over several kinds."""
        kinds = {"root": ((), {"to": ("sure", "all"), **{name: ("sure", "number") for name in "abc"}})}
        names = ["a", "b", "c"]
        rows = []
        for kind in ("ka", "kb", "kc", "kd"):
            kinds[kind] = ((), {name: ("sure", "number") for name in "pqr"})
            rows.append(on(kind, *[field(name, name) for name in "pqr"[:max(0, min(3, many - len(names)))]]))
            names.extend("pqr"[:max(0, min(3, many - len(names)))])
        self.assertEqual(len(names), many)
        kinds["root"][1].pop("c")
        schema = Schema(kinds, {}, {"all": ("ka", "kb", "kc", "kd")}, "root")
        return Question(schema, (field("to", "t", *rows), field("a", "a"), field("b", "b")), {})

    def test_too_many(self):
        for many in (12, 13):
            question = self.wide(many)
            helping = {("root", "to"), ("root", "a"), ("root", "b")}
            for way, key, _ in rises(question, {}):
                if way:
                    helping.add((way[0][1], key))
            self.assertEqual(len(helping), many)
            for most in range(4):
                if many == 13:
                    self.assertEqual(error_of(TooMany, lambda: held(question, {}, most=most)).most, 12)
                else:
                    self.assert_held([("root", "a"), ("root", "b"), ("root", "to")] if most == 3 else None, question, most=most)
            self.assertEqual(held(question, {}, depth=0), [])
        self.assertIsNone(held(self.wide(12), {}, depth=2))
        self.assertEqual(error_of(TooMany, lambda: held(self.wide(13), {}, depth=2)).most, 12)

    def test_too_many_only_counts_what_helps(self):
        question = self.wide(13)
        rows = question.rows[:1]
        self.assertIsNone(held(Question(question.schema, rows, {}), {}, most=0))
        self.assertEqual(held(Question(question.schema, rows, {}), {}), [("root", "to")])

    def test_linked_kinds_are_one_of_the_many(self):
        shape = ("sure", "number")
        fields = {name: shape for name in "pqr"}
        kinds = {kind: (("f",), {**fields, "s": shape}) for kind in ("ka", "kb", "kc", "kd")}
        kinds["root"] = ((), {"to": ("sure", "f")})
        schema = Schema(kinds, {"f": fields}, {}, "root")
        every = [field(name, name) for name in "pqr"] + [on(kind, field("s", "s")) for kind in ("ka", "kb", "kc")]
        question = Question(schema, (field("to", "t", *every),), {})
        self.assertEqual(len(wipes(question, {})), 16)
        self.assert_held([("root", "to")], question, most=1)
        self.assert_held(None, question, depth=2)


class Errors(unittest.TestCase):
    """[10.7]."""

    def setUp(self):
        rows = (asked_if("f", True, ("kind", "s")), field("size", "s"), field("near", "n"))
        self.question = Question(BOX, rows, {})

    def test_flags(self):
        for flags in [*odd_values(), {"f": 1}, {"f": True, "g": True}]:
            error_of(BadFlags, rises, self.question, flags)
            error_of(BadFlags, lambda: wipes(self.question, flags, depth=None))
            error_of(BadFlags, lambda: held(self.question, flags, depth=None, most=None))

    def test_depths(self):
        for depth in range(11):
            wipes(self.question, {"f": False}, depth=depth)
            held(self.question, {"f": False}, depth=depth)
        wrong = [value for value in odd_values() if type(value) is not int or not 0 <= value <= 10]
        for depth in [*wrong, True, False, -1, 11, 12, 10 ** 30, -10 ** 5000, "1", [1], (1,), {1}, {1: 1}, b"\x01", None]:
            for flags in ({"f": False}, {"f": True}):
                error_of(BadNumber, lambda: wipes(self.question, flags, depth=depth))
                error_of(BadNumber, lambda: held(self.question, flags, depth=depth))
                error_of(BadNumber, lambda: held(self.question, flags, depth=depth, most=True))

    def test_most(self):
        for most in range(4):
            held(self.question, {"f": False}, most=most)
        wrong = [value for value in odd_values() if type(value) is not int or not 0 <= value <= 3]
        for most in [*wrong, True, False, -1, 4, 5, 10 ** 30, "1", [1], (1,), {1}, None]:
            for flags in ({"f": False}, {"f": True}):
                error_of(BadNumber, lambda: held(self.question, flags, most=most))
                error_of(BadNumber, lambda: held(self.question, flags, depth=0, most=most))

    def test_clashes(self):
        for call in (rises, wipes, held):
            self.assertEqual(error_of(Clash, call, self.question, {"f": True}).way, ("s",))
            call(self.question, {"f": False})
        for depth in (0, 10):
            self.assertEqual(error_of(Clash, lambda: wipes(self.question, {"f": True}, depth=depth)).way, ("s",))
        rows = (field("near", "b", ("kind", "c"), field("size", "c")), field("near", "a", field("near", "z", ("kind", "z"), field("size", "z"))))
        for call in (rises, wipes, held):
            self.assertEqual(error_of(Clash, call, Question(BOX, rows, {}), {}).way, ("a", "z", "z"))

    def test_a_clash_comes_before_too_many(self):
        question = Held().wide(13)
        clashing = Question(question.schema, question.rows + (("kind", "a"),), {})
        error_of(TooMany, held, question, {})
        self.assertEqual(error_of(Clash, held, clashing, {}).way, ("a",))

    def test_depth_and_most_are_keywords(self):
        with self.assertRaises(TypeError):
            wipes(self.question, {"f": False}, 1)
        with self.assertRaises(TypeError):
            held(self.question, {"f": False}, 1)


if __name__ == "__main__":
    unittest.main()
