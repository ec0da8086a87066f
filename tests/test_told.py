"""Points [2], [3] and [11.1] to [11.5], and the interface of nestedwishes/told.py."""

import itertools
import unittest

from nestedwishes.answers import Store, answer
from nestedwishes.errors import BadFlags, Clash, Unclear, UnlikeSchemas
from nestedwishes.schemas import Schema
from nestedwishes.told import apart, told
from tests.helpers import asked, asked_if, box_schema, error_of, field, odd_values, on, pet_schema, things_of

BOX = box_schema()
KIND = ("kind", "k")
SIZE = field("size", "s")


def is_clean(shape, value, sure=False):
    """Whether nothing in a value fails, and nothing is empty at a sure place."""
    if isinstance(shape, tuple) and shape[0] == "sure":
        return is_clean(shape[1], value, True)
    if value is None or value == ("fail",):
        return value is None and not sure
    return not isinstance(shape, tuple) or all(is_clean(shape[1], item) for item in value)


class Telling(unittest.TestCase):
    def data(self, question, store, flags):
        return answer(question, store, {flag: flags[flag] for flag in question.flags()})[0]

    def assert_told(self, one, other, flags=None):
        """The second question tells the first one."""
        self.assertIs(told(one, other, flags or {}), True)
        self.assertIsNone(apart(one, other, flags or {}))

    def assert_apart(self, one, other, flags=None):
        """It does not, and two stores show it."""
        flags = flags or {}
        self.assertIs(told(one, other, flags), False)
        stores = apart(one, other, flags)
        self.assertIs(type(stores), tuple)
        self.assertEqual(len(stores), 2)
        for store in stores:
            self.assertIs(type(store), Store)
            self.assertTrue(store.schema == one.schema)
            things = things_of(store)
            self.assertLessEqual(len(things), 12)
            for kind, fields in things.values():
                self.assertTrue(all(is_clean(store.schema.shape_of(kind, name), value) for name, value in fields.items()))
        self.assertEqual(*(self.data(other, store, flags) for store in stores))
        self.assertNotEqual(*(self.data(one, store, flags) for store in stores))


class Told(Telling):
    """[11.1] and [11.3]."""

    def test_example_of_the_interface(self):
        kinds = {"box": ((), {"size": "number", "lid": ("sure", "cap")}), "cap": ((), {"size": "number"})}
        schema = Schema(kinds, {}, {}, "box")
        one = asked(schema, field("size", "s"), field("lid", "a", KIND))
        other = asked(schema, field("size", "t"))
        self.assert_told(one, other)
        self.assert_apart(other, asked(schema, field("lid", "a", field("size", "t"))))

    def test_leaves(self):
        self.assert_told(asked(BOX, SIZE), asked(BOX, SIZE))
        self.assert_told(asked(BOX, SIZE), asked(BOX, field("size", "other"), KIND))
        self.assert_told(asked(BOX, SIZE, field("size", "again")), asked(BOX, SIZE))
        self.assert_apart(asked(BOX, SIZE), asked(BOX, KIND))
        self.assert_apart(asked(BOX, SIZE), asked(BOX))
        kinds = {"box": ((), {"a": "number", "b": "number", "t": "text", "u": ("sure", "text")})}
        schema = Schema(kinds, {}, {}, "box")
        for name, key in itertools.permutations("abtu", 2):
            self.assert_apart(asked(schema, field(name, "k")), asked(schema, field(key, "k")))
        self.assert_apart(asked(schema, field("a", "a"), field("u", "u")), asked(schema, *[field(name, name) for name in "abt"]))

    def test_the_kind_of_the_first_thing_is_told(self):
        self.assert_told(asked(BOX, KIND, ("kind", "l")), asked(BOX))
        self.assert_told(asked(BOX), asked(BOX))
        self.assert_told(asked(BOX), asked(BOX, SIZE))
        self.assert_told(asked(BOX, on("cap", field("of", "o"))), asked(BOX))

    def test_fields_that_are_empty_or_not(self):
        self.assert_apart(asked(BOX, field("near", "n")), asked(BOX))
        self.assert_apart(asked(BOX, field("near", "n", KIND)), asked(BOX, SIZE))
        self.assert_told(asked(BOX, field("near", "n", KIND)), asked(BOX, field("near", "m")))
        self.assert_told(asked(BOX, field("near", "n")), asked(BOX, field("near", "m", SIZE)))
        self.assert_apart(asked(BOX, field("near", "n", SIZE)), asked(BOX, field("near", "m", KIND)))
        self.assert_apart(asked(BOX, field("near", "n", SIZE)), asked(BOX, SIZE))

    def test_several_keys_of_one_field_tell_together(self):
        one = asked(BOX, field("near", "a", SIZE, field("near", "b", field("lid", "c"))))
        keys = [field("near", "x", SIZE), field("near", "y", field("near", "z", field("lid", "l"))),
                field("near", "w", field("near", "z"))]
        self.assert_told(one, asked(BOX, *keys))
        self.assert_told(one, asked(BOX, keys[1], keys[0]))
        for at in range(3):
            self.assert_apart(one, asked(BOX, keys[at]))
        self.assert_apart(one, asked(BOX, keys[0], keys[2]))
        self.assert_apart(one, asked(BOX, keys[1], keys[2]))

    def test_several_keys_at_two_depths(self):
        one = asked(BOX, field("near", "a", field("near", "b", SIZE, field("lid", "l", field("size", "t")))))
        first = field("near", "p", field("near", "q", SIZE), field("near", "r"))
        second = field("near", "s", field("near", "t", field("lid", "u", SIZE)))
        self.assert_told(one, asked(BOX, first, second))
        self.assert_apart(one, asked(BOX, first))
        self.assert_apart(one, asked(BOX, second))

    def test_keys_of_one_thing_tell_nothing_of_another_one(self):
        one = asked(BOX, field("near", "a", SIZE))
        self.assert_apart(one, asked(BOX, SIZE, field("near", "a", field("near", "b", SIZE))))
        self.assert_apart(one, asked(BOX, field("lid", "l", field("of", "o", SIZE)), field("near", "a")))
        self.assert_apart(one, asked(BOX, field("one", "o", KIND, on("box", SIZE))))

    def test_each_key_is_told_by_all_keys_of_the_field(self):
        one = asked(BOX, field("near", "a", SIZE), field("near", "b", field("lid", "l")))
        self.assert_told(one, asked(BOX, field("near", "c", SIZE, field("lid", "m"))))
        self.assert_apart(one, asked(BOX, field("near", "c", SIZE)))
        self.assert_apart(one, asked(BOX, field("near", "c", field("lid", "m"))))

    def test_members_of_a_union(self):
        one = asked(BOX, field("one", "o", on("cap", SIZE)))
        self.assert_told(one, asked(BOX, field("one", "p", KIND, on("cap", SIZE))))
        self.assert_apart(one, asked(BOX, field("one", "p", KIND, on("box", SIZE))))
        both = asked(BOX, field("one", "o", on("cap", SIZE), on("box", SIZE)))
        self.assert_apart(both, asked(BOX, field("one", "p", KIND, on("cap", SIZE))))
        self.assert_apart(both, asked(BOX, field("one", "p", KIND), field("one", "q", KIND, on("box", SIZE))))
        self.assert_told(both, asked(BOX, field("one", "p", KIND, on("cap", SIZE)), field("one", "q", KIND, on("box", SIZE))))
        self.assert_told(asked(BOX, field("one", "o", KIND)), asked(BOX, field("one", "p", ("kind", "m"))))

    def test_one_need_not_tell_the_kinds(self):
        for rows in ([], [on("cap", KIND)], [on("cap", SIZE)], [on("thing", KIND), on("cap", SIZE)]):
            self.assert_told(asked(BOX, field("one", "o", *rows)), asked(BOX, field("one", "p", KIND, on("cap", SIZE))))
            self.assert_apart(asked(BOX, field("one", "o", *rows)), asked(BOX))

    def test_parts_and_put_together_rows(self):
        one = asked(BOX, field("near", "a", ("part", "p")), field("near", "a", SIZE), p=("thing", on("box", field("lid", "l"))))
        self.assert_told(one, asked(BOX, field("near", "b", field("lid", "l"), SIZE)))
        self.assert_apart(one, asked(BOX, field("near", "b", SIZE)))
        self.assert_told(asked(BOX, field("near", "b", field("lid", "l"), SIZE)), one)

    def test_truths_of_flags(self):
        one = asked(BOX, SIZE, asked_if("f", True, field("near", "n")))
        other = asked(BOX, asked_if("f", True, SIZE), asked_if("g", False, SIZE), asked_if("g", True, field("near", "m")))
        for f, g in itertools.product((False, True), repeat=2):
            flags = {"f": f, "g": g}
            expect = self.assert_told if (f, g) in [(True, True), (False, False)] else self.assert_apart
            expect(one, other, flags)

    def test_flags_of_one_of_them(self):
        one = asked(BOX, asked_if("f", True, SIZE))
        self.assert_told(one, asked(BOX), {"f": False})
        self.assert_apart(one, asked(BOX), {"f": True})
        self.assert_told(asked(BOX, SIZE), one, {"f": True})
        self.assert_apart(asked(BOX, SIZE), one, {"f": False})

    def test_four_steps(self):
        def at(*rows):
            for key in "dcba":
                rows = (field("near", key, *rows),)
            return asked(BOX, *rows)

        self.assert_told(at(KIND), at())
        self.assert_apart(at(SIZE), at(KIND))
        self.assert_apart(at(SIZE), asked(BOX, SIZE))
        self.assert_apart(at(field("near", "e")), at(SIZE))
        self.assert_apart(at(SIZE), asked(BOX, field("near", "a", field("near", "b", field("near", "c")))))


class ConstantData(Telling):
    """[11.3]: what is the same in all clean stores."""

    def schema(self, shape):
        kinds = {
            "box": ((), {"f": shape, "n": "number"}),
            "cap": (("top",), {"b": ("sure", "box"), "u": ("sure", "both"), "n": "number"}),
            "lid": (("top",), {"b": ("sure", "box"), "u": "both", "n": "number"}),
        }
        return Schema(kinds, {"top": {"b": ("sure", "box")}}, {"both": ("cap", "lid"), "only": ("cap",)}, "box")

    def test_wrappers_in_every_order(self):
        wrapped = [("sure",), ("list",), ("sure", "list"), ("list", "sure"), ("list", "list"), ("sure", "list", "sure"),
                   ("list", "sure", "list"), ("sure", "list", "list"), ("list", "list", "sure"), ("sure", "list", "sure", "list"),
                   ("list", "sure", "list", "sure"), ("list", "list", "list", "list"), ()]
        for wrappers in wrapped:
            for base in ("box", "cap", "top", "both", "only", "number", "text"):
                shape = base
                for word in reversed(wrappers):
                    shape = (word, shape)
                schema = self.schema(shape)
                always = wrappers == ("sure",) and base not in ("number", "text")
                (self.assert_told if always else self.assert_apart)(asked(schema, field("f", "a")), asked(schema))
                self.assert_told(asked(schema, field("f", "a")), asked(schema, field("f", "b", *[KIND] * (base not in ("number", "text")))))

    def test_kind_names(self):
        for base in ("box", "cap", "only"):
            schema = self.schema(("sure", base))
            self.assert_told(asked(schema, field("f", "a", KIND, ("kind", "l"))), asked(schema))
        for base in ("top", "both"):
            schema = self.schema(("sure", base))
            self.assert_apart(asked(schema, field("f", "a", KIND)), asked(schema))
            self.assert_apart(asked(schema, field("f", "a", on("lid", KIND))), asked(schema))
            self.assert_told(asked(schema, field("f", "a", on("box", KIND))), asked(schema))
            self.assert_told(asked(schema, field("f", "a", KIND)), asked(schema, field("f", "b", ("kind", "l"))))

    def test_through_sure_fields(self):
        schema = self.schema(("sure", "top"))
        self.assert_told(asked(schema, field("f", "a", field("b", "c", KIND))), asked(schema))
        self.assert_told(asked(schema, field("f", "a", on("cap", field("b", "c", KIND)), on("lid", field("b", "c", KIND)))), asked(schema))
        self.assert_apart(asked(schema, field("f", "a", on("cap", field("b", "c", KIND)))), asked(schema))
        self.assert_apart(asked(schema, field("f", "a", on("cap", field("b", "c", KIND)), on("lid", field("b", "d", KIND)))), asked(schema))
        self.assert_apart(asked(schema, field("f", "a", on("cap", field("b", "c", KIND)), on("lid", field("b", "c")))), asked(schema))
        self.assert_told(asked(schema, field("f", "a", field("b", "c", field("f", "d", field("b", "e", KIND))))), asked(schema))
        self.assert_apart(asked(schema, field("f", "a", field("b", "c", field("f", "d", field("b", "e", field("n", "n")))))), asked(schema))

    def test_unequal_data_deep_below(self):
        schema = self.schema(("sure", "top"))
        deep = field("f", "a", field("b", "c", field("f", "d", on("cap", KIND))))
        self.assert_apart(asked(schema, deep), asked(schema))
        self.assert_apart(asked(schema, deep), asked(schema, field("n", "n"), field("f", "x", KIND, on("cap", field("n", "n")))))
        self.assert_told(asked(schema, deep), asked(schema, field("f", "x", KIND, field("b", "y", field("f", "z", KIND)))))
        self.assert_apart(asked(schema, deep), asked(schema, field("f", "x", KIND, field("b", "y"))))

    def test_what_is_constant_in_one_member_alone(self):
        schema = self.schema(("sure", "both"))
        self.assert_apart(asked(schema, field("f", "a", on("cap", field("u", "c")), on("lid", field("u", "c")))), asked(schema))
        # Both members have the data {"c": {}}, from unlike fields.
        rows = field("f", "a", on("cap", field("u", "c")), on("lid", field("b", "c")))
        self.assert_told(asked(schema, rows), asked(schema))
        rows = field("f", "a", on("cap", field("u", "c")), on("lid", field("b", "c", KIND)))
        self.assert_apart(asked(schema, rows), asked(schema))

    def test_constant_data_beside_what_is_seen(self):
        schema = self.schema(("sure", "cap"))
        one = asked(schema, field("f", "a", KIND, field("b", "b", KIND), field("n", "n")))
        self.assert_apart(one, asked(schema))
        self.assert_told(one, asked(schema, field("f", "c", field("n", "m"))))
        self.assert_apart(one, asked(schema, field("f", "c", field("b", "b", field("n", "n")))))

    def test_a_list_of_what_is_always_the_same_is_not_constant(self):
        schema = self.schema(("sure", ("list", ("sure", "cap"))))
        self.assert_apart(asked(schema, field("f", "a", KIND)), asked(schema))
        self.assert_told(asked(schema, field("f", "a", KIND)), asked(schema, field("f", "b")))

    def test_a_field_that_leads_to_itself(self):
        schema = Schema({"box": ((), {"f": ("sure", "box"), "n": "number"})}, {}, {}, "box")
        rows = [KIND]
        for key in "abcd":
            rows = [field("f", key, *rows)]
        self.assert_told(asked(schema, *rows), asked(schema))
        rows = [field("n", "n")]
        for key in "abcd":
            rows = [field("f", key, *rows)]
        self.assert_apart(asked(schema, *rows), asked(schema, field("n", "n")))
        self.assert_apart(asked(schema, *rows), asked(schema, field("f", "x", field("n", "n"))))
        self.assert_apart(asked(schema, field("f", "x", field("n", "n"))), asked(schema, *rows))


class Apart(Telling):
    """[11.4]."""

    def test_kinds_that_lead_to_one_another(self):
        shapes = {"s": ("sure", "any"), "l": ("list", ("sure", "any")), "p": ("sure", ("list", ("sure", ("list", "both"))))}
        kinds = {
            "ka": (("any",), {**shapes, "a": "number"}), "kb": (("any",), {**shapes, "a": ("sure", "kc")}),
            "kc": (("any",), {**shapes, "a": ("list", "kd"), "t": "text"}), "kd": ((), {"a": ("sure", "ke")}),
            "ke": ((), {"a": ("sure", "kf")}), "kf": ((), {"a": ("sure", "both")}),
        }
        schema = Schema(kinds, {"any": shapes}, {"both": ("kd", "kb"), "all": ("ka", "kc", "kf", "ke")}, "kb")
        seen = field("s", "x", KIND, on("ka", field("l", "y", KIND, field("p", "z", KIND))))
        deep = [
            (True, field("s", "b", on("ka", field("l", "c", field("p", "d"))))),
            (True, field("s", "b", on("ka", field("l", "c", field("p", "d", KIND))))),
            (True, field("s", "b", on("ka", field("l", "c", field("s", "d"))))),
            (True, field("s", "b", on("kb", field("a", "c")))),
            (True, field("s", "b", on("kb", field("a", "c", KIND)))),
            (False, field("l", "b")),
            (False, field("s", "b", field("l", "c"))),
            (False, field("s", "b", field("l", "c", on("kc", field("t", "d"))))),
            (False, field("s", "b", on("ka", field("l", "c", field("s", "d", KIND))))),
            (False, field("s", "b", on("ka", field("l", "c", on("kc", field("t", "d")))))),
            (False, field("s", "b", on("ka", field("p", "c")))),
            (False, field("s", "b", on("kb", field("a", "c", field("t", "d"))))),
            (False, field("s", "b", on("kc", field("a", "c", field("a", "d"))))),
            (False, field("a", "b", field("a", "c", field("a", "d", field("a", "e"))))),
        ]
        for is_told, rows in deep:
            (self.assert_told if is_told else self.assert_apart)(asked(schema, rows), asked(schema, seen))
        several = [deep[at][1] for at in (0, 1, 3, 4)]
        self.assert_told(asked(schema, *several), asked(schema, seen))
        self.assert_apart(asked(schema, *several, field("l", "q")), asked(schema, seen))

    def test_six_kinds_on_a_long_way(self):
        kinds = {kind: ((), {"go": ("sure", below), "n": "number"}) for kind, below in zip("uvwxyz", "vwxyzu")}
        schema = Schema(kinds, {}, {}, "u")
        rows = [field("n", "n")]
        for key in "abcd":
            rows = [field("go", key, *rows)]
        self.assert_apart(asked(schema, *rows), asked(schema, field("n", "n"), field("go", "a", field("n", "n"))))

    def test_the_stores_differ_where_the_way_leads_in_lists(self):
        kinds = {"box": ((), {"all": ("list", ("list", "box")), "n": ("list", ("sure", "number")), "t": ("sure", "text")})}
        schema = Schema(kinds, {}, {}, "box")
        for name in ("n", "t", "all"):
            one = asked(schema, field("all", "a", field("all", "b", field(name, "c"))))
            self.assert_apart(one, asked(schema, field("all", "a", field("all", "b", *[field(other, other) for other in {"n", "t", "all"} - {name}]))))
            self.assert_told(one, asked(schema, field("all", "a", field("all", "b", field(name, "d")))))

    def test_the_stores_are_new(self):
        one, other = asked(BOX, SIZE), asked(BOX)
        first, second = apart(one, other, {}), apart(one, other, {})
        self.assertTrue(first[0] == second[0] or first[0] == second[1])
        self.assertFalse(first[0] == first[1])


class Unclears(unittest.TestCase):
    """[11.2]."""

    def way(self, *rows, schema=BOX, flags=None, **parts):
        other = asked(schema, *rows, **parts)
        ways = [error_of(Unclear, call, asked(schema), other, flags or {}).way for call in (told, apart)]
        self.assertEqual(ways[0], ways[1])
        self.assertEqual(error_of(Unclear, told, other, other, flags or {}).way, ways[0])
        return ways[0]

    def assert_clear(self, *rows, schema=BOX):
        other = asked(schema, *rows)
        self.assertIs(told(other, other, {}), True)

    def test_markers(self):
        self.assertEqual(self.way(field("one", "a")), ("a",))
        self.assertEqual(self.way(field("one", "a", on("box", KIND))), ("a",))
        self.assertEqual(self.way(field("one", "a", on("box", KIND), on("cap", ("kind", "l")))), ("a",))
        self.assertEqual(self.way(field("one", "a", on("box", KIND), on("cap", field("size", "k")))), ("a",))
        self.assertEqual(self.way(field("one", "a", on("box", SIZE), on("cap", SIZE))), ("a",))
        self.assertEqual(self.way(KIND, field("one", "a", on("box", SIZE))), ("a",))
        self.assert_clear(field("one", "a", KIND))
        self.assert_clear(field("one", "a", on("box", KIND), on("cap", KIND)))
        self.assert_clear(field("one", "a", on("cap", ("kind", "b"), KIND), on("box", KIND, ("kind", "c"))))
        self.assert_clear(field("near", "a"), field("lid", "b"), field("size", "c"), field("near", "d", SIZE))

    def test_each_key_needs_a_marker(self):
        self.assertEqual(self.way(field("one", "b", KIND), field("one", "a")), ("a",))
        self.assertEqual(self.way(field("one", "a", KIND), field("one", "b")), ("b",))
        self.assert_clear(field("one", "a", KIND), field("one", "a", SIZE_OF_CAPS))

    def test_bases_with_one_member(self):
        kinds = {"box": (("f",), {"a": "f", "b": "u", "c": "g", "n": "number"}), "cap": (("g",), {"c": "g"}), "lid": (("g",), {"c": "g"})}
        schema = Schema(kinds, {"f": {"a": "f"}, "g": {"c": "g"}}, {"u": ("box",)}, "box")
        self.assert_clear(field("a", "a"), field("b", "b"), schema=schema)
        self.assertEqual(self.way(field("a", "a"), field("c", "c"), schema=schema), ("c",))
        self.assertEqual(self.way(field("c", "c", KIND, field("c", "d")), schema=schema), ("c", "d"))
        self.assert_clear(field("c", "c", KIND, field("c", "d", KIND)), schema=schema)

    def test_wrappers_do_not_matter(self):
        for shape in ("thing", ("sure", "thing"), ("list", "thing"), ("sure", ("list", ("sure", "thing")))):
            schema = BOX.with_shape("box", "one", shape)
            self.assertEqual(self.way(field("one", "a"), schema=schema), ("a",))
            self.assert_clear(field("one", "a", KIND), schema=schema)

    def test_the_fewest_keys(self):
        self.assertEqual(self.way(field("near", "a", field("one", "b")), field("one", "c")), ("c",))
        self.assertEqual(self.way(field("near", "a", field("near", "b", field("one", "c"))), field("near", "d", field("one", "e"))), ("d", "e"))

    def test_the_least_way(self):
        self.assertEqual(self.way(field("one", "c"), field("one", "b"), field("one", "d")), ("b",))
        self.assertEqual(self.way(field("near", "b", field("one", "a")), field("near", "a", field("one", "z"), field("one", "y"))), ("a", "y"))

    def test_the_least_way_has_keys_alone(self):
        rows = field("one", "a", KIND, on("cap", field("of", "a", field("one", "b"))), on("box", field("near", "b", field("one", "a"))))
        self.assertEqual(self.way(rows), ("a", "a", "b"))
        rows = field("one", "a", KIND, on("box", field("near", "b", field("one", "a"))), on("cap", field("of", "a", field("one", "z"))))
        self.assertEqual(self.way(rows), ("a", "a", "z"))

    def test_ways_that_lead_to_the_same_rows(self):
        rows = [field("one", "a", KIND, on("box", field("near", "z", ("part", "p"))), on("cap", field("of", "b", ("part", "p"))))]
        self.assertEqual(self.way(*rows, p=("box", field("one", "c"))), ("a", "b", "c"))
        rows = [field("near", "y", field("near", "b", ("part", "p"))), field("near", "x", field("near", "c", ("part", "p")))]
        self.assertEqual(self.way(*rows, p=("box", field("one", "k"))), ("x", "c", "k"))

    def test_only_other_and_only_under_some_truths(self):
        other = asked(BOX, field("one", "a", asked_if("f", True, KIND)))
        self.assertIs(told(asked(BOX, field("one", "a")), other, {"f": True}), True)
        self.assertEqual(error_of(Unclear, told, asked(BOX), other, {"f": False}).way, ("a",))
        self.assertIs(told(other, asked(BOX), {"f": False}), False)

    def test_a_way_without_the_key(self):
        self.assert_clear(field("one", "a", KIND, on("cap", on("box", field("one", "b")))))
        self.assert_clear(on("cap", field("of", "o", field("one", "b"))))


SIZE_OF_CAPS = on("cap", SIZE)


class Errors(unittest.TestCase):
    """[11.5], and [2] for these two functions."""

    def test_order(self):
        clashing = asked(BOX, asked_if("f", True, KIND, field("size", "k")))
        also = asked(BOX, asked_if("g", True, ("kind", "l"), field("size", "l")))
        unclear = asked(BOX, field("one", "a"))
        pets = asked(pet_schema(), asked_if("f", True))
        good = {"f": True, "g": True}
        for call in (told, apart):
            for flags in ({}, good, None):
                error_of(UnlikeSchemas, call, clashing, pets, flags)
                error_of(UnlikeSchemas, call, pets, clashing, flags)
            error_of(BadFlags, call, clashing, also, {"f": True})
            error_of(BadFlags, call, clashing, unclear, {})
            error_of(BadFlags, call, unclear, unclear, {"f": True})
            self.assertEqual(error_of(Clash, call, clashing, also, good).way, ("k",))
            self.assertEqual(error_of(Clash, call, also, clashing, good).way, ("l",))
            self.assertEqual(error_of(Clash, call, clashing, also, {"f": False, "g": True}).way, ("l",))
            self.assertEqual(error_of(Clash, call, clashing, unclear, {"f": True}).way, ("k",))
            self.assertEqual(error_of(Clash, call, asked(BOX), asked(BOX, *clashing.rows, *unclear.rows), {"f": True}).way, ("k",))
            self.assertEqual(error_of(Unclear, call, clashing, unclear, {"f": False}).way, ("a",))

    def test_clashes_as_plain_finds_them(self):
        one = asked(BOX, ("kind", "b"), field("near", "b"), field("near", "a", field("near", "z", KIND, field("size", "k"))))
        for call in (told, apart):
            self.assertEqual(error_of(Clash, call, one, asked(BOX), {}).way, ("a", "z", "k"))
            self.assertEqual(error_of(Clash, call, asked(BOX), one, {}).way, ("a", "z", "k"))

    def test_flags_of_every_kind(self):
        one, other = asked(BOX, asked_if("f", True, SIZE)), asked(BOX, asked_if("g", True, SIZE))
        wrong = [{"f": True}, {"g": True}, {"f": True, "g": 1}, {"f": True, "g": None}, {"f": True, "g": True, "h": True},
                 {"f": True, "h": True}, [("f", True), ("g", True)], {"f": [], "g": {}}, {"f", "g"}]
        for flags in [*odd_values(), *wrong]:
            error_of(BadFlags, told, one, other, flags)
            error_of(BadFlags, apart, one, other, flags)
        for flags in odd_values():
            if flags != {}:
                error_of(BadFlags, told, asked(BOX), asked(BOX), flags)

    def test_equal_schemas_are_enough(self):
        one, other = asked(box_schema(), SIZE), asked(box_schema(), field("size", "t"))
        self.assertIs(told(one, other, {}), True)
        changed = BOX.with_shape("box", "size", ("sure", "number"))
        error_of(UnlikeSchemas, told, one, asked(changed, SIZE), {})

    def test_arguments_stay(self):
        one, other = asked(BOX, asked_if("f", True, SIZE)), asked(BOX, field("one", "o", KIND))
        flags = {"f": True}
        told(one, other, flags)
        apart(one, other, flags)
        self.assertEqual(flags, {"f": True})
        self.assertTrue(one == asked(BOX, asked_if("f", True, SIZE)) and other == asked(BOX, field("one", "o", KIND)))

    def test_wide_and_deep_questions(self):
        shapes = {**{name: ("sure", ("list", "any")) for name in "abc"}, "n": "number"}
        kinds = {kind: (("any",), {**shapes, "m": "number"}) for kind in "uvwxyz"}
        schema = Schema(kinds, {"any": shapes}, {}, "z")

        def wide(*last):
            parts = {"p": ("any", KIND, *[field(name, name, ("part", "q")) for name in "abc"], field("c", "e", ("part", "r"))),
                     "q": ("any", KIND, field("n", "n")), "r": ("any", *last)}
            return asked(schema, *[field("abcab"[at], "abcde"[at], ("part", "p"), ("part", "s")) for at in range(5)],
                         s=("any", on("w", field("a", "f", KIND))), **parts)

        self.assertIs(told(wide(KIND), wide(KIND), {}), True)
        self.assertIs(told(wide(KIND, field("n", "s")), wide(KIND), {}), True)
        self.assertEqual(error_of(Unclear, told, wide(KIND), wide(), {}).way, ("a", "e"))
        named = asked(schema, field("a", "a", KIND, field("b", "b", on("w", field("m", "m")))))
        self.assertIs(told(named, wide(KIND), {}), False)
        self.assertIs(told(named, wide(KIND) + named, {}), True)


if __name__ == "__main__":
    unittest.main()
