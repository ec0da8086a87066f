"""Points [2] and [8.1] to [8.5], and the interface of nestedwishes/alike.py."""

import unittest

from nestedwishes.alike import alike, parted
from nestedwishes.answers import Store, answer
from nestedwishes.errors import Clash, UnlikeSchemas
from nestedwishes.questions import Question
from nestedwishes.schemas import Schema
from tests.helpers import box_schema, error_of, pet_schema

BOX = box_schema()
KIND = ("kind", "k")
SIZE = ("field", "size", "s", ())


def field(name, key, *rows):
    return ("field", name, key, tuple(rows))


def on(base, *rows):
    return ("on", base, tuple(rows))


def asked_if(flag, wanted, *rows):
    return ("if", flag, wanted, tuple(rows))


def asked(*rows, schema=BOX, parts=None):
    return Question(schema, tuple(rows), parts or {})


class Parting(unittest.TestCase):
    def own(self, question, flags):
        return {flag: flags[flag] for flag in question.flags()}

    def assert_parted(self, one, other, flags, way):
        """Both questions part as told, in either order, and the answers for the store are not equal."""
        for first, second in ((one, other), (other, one)):
            given = parted(first, second)
            self.assertIs(type(given), tuple)
            self.assertEqual(given[:2], (flags, way))
            self.assertIs(type(given[0]), dict)
            self.assertIs(type(given[2]), Store)
            self.assertTrue(given[2].schema == first.schema)
            self.assertEqual(len(given), 3)
            self.assertNotEqual(answer(first, given[2], self.own(first, flags)), answer(second, given[2], self.own(second, flags)))
            self.assertIs(alike(first, second), False)

    def assert_alike(self, one, other):
        for first, second in ((one, other), (other, one)):
            self.assertIsNone(parted(first, second))
            self.assertIs(alike(first, second), True)

    def test_example_of_the_interface(self):
        kinds = {"box": ((), {"size": "number", "near": "thing"}), "cap": ((), {"size": "number"})}
        schema = Schema(kinds, {}, {"thing": ("box", "cap")}, "box")
        one = asked(field("near", "a", on("cap", SIZE)), schema=schema)
        other = asked(field("near", "a", on("box", SIZE)), schema=schema)
        self.assert_parted(one, other, {}, (("a", "box"),))

    def test_alike_questions(self):
        self.assert_alike(asked(), asked())
        self.assert_alike(asked(), asked(on("cap", KIND), on("box"), asked_if("f", True)))
        self.assert_alike(asked(KIND, SIZE), asked(SIZE, KIND, KIND))
        self.assert_alike(asked(field("near", "a", KIND, SIZE)), asked(field("near", "a", SIZE), field("near", "a", KIND)))
        self.assert_alike(asked(field("one", "a", on("box", KIND), on("cap", KIND))), asked(field("one", "a", KIND)))
        self.assert_alike(asked(KIND, field("lid", "l", ("part", "p")), parts={"p": ("thing", (KIND,))}),
                          asked(KIND, field("lid", "l", KIND)))
        self.assert_alike(asked(KIND, parts={"p": ("thing", (KIND,))}), asked(KIND, parts={"q": ("box", (SIZE,))}))

    def test_flags_that_make_no_difference(self):
        self.assert_alike(asked(asked_if("f", True, KIND), asked_if("f", False, KIND)), asked(KIND))
        self.assert_alike(asked(asked_if("f", True, KIND), asked_if("g", True, SIZE)),
                          asked(asked_if("g", True, asked_if("f", False, SIZE), asked_if("f", True, SIZE)), asked_if("f", True, KIND)))
        self.assert_alike(asked(asked_if("f", True, asked_if("f", False, KIND))), asked())

    def test_parted_at_the_root(self):
        self.assert_parted(asked(KIND), asked(), {}, ())
        self.assert_parted(asked(KIND), asked(("kind", "l")), {}, ())
        self.assert_parted(asked(SIZE), asked(("field", "size", "t", ())), {}, ())
        self.assert_parted(asked(field("near", "a", KIND)), asked(), {}, ())
        self.assert_parted(asked(SIZE, KIND), asked(SIZE), {}, ())

    def test_unlike_names_under_one_key(self):
        self.assert_parted(asked(field("near", "a")), asked(field("lid", "a")), {}, ())
        self.assert_parted(asked(field("near", "a")), asked(field("one", "a")), {}, ())
        self.assert_parted(asked(field("size", "a")), asked(field("near", "a")), {}, ())
        self.assert_parted(asked(field("size", "a")), asked(("kind", "a")), {}, ())
        self.assert_parted(asked(field("near", "a")), asked(("kind", "a")), {}, ())

    def test_unlike_fields_of_every_shape(self):
        shapes = ["number", "text", "box", ("list", "number"), ("sure", "box"), ("sure", "number"), ("sure", "text"),
                  ("sure", ("list", ("sure", "text"))), ("list", ("list", "box")), ("sure", ("list", ("list", ("sure", "any"))))]
        for first in shapes:
            for second in shapes:
                kinds = {"box": ((), {"a": first, "b": second, "c": ("sure", "box")}), "cap": ((), {"d": ("sure", "box")})}
                schema = Schema(kinds, {}, {"any": ("cap", "box")}, "box")
                one, other = asked(field("a", "k"), schema=schema), asked(field("b", "k"), schema=schema)
                self.assert_parted(one, other, {}, ())
                self.assert_parted(one, asked(("kind", "k"), schema=schema), {}, ())
                self.assert_parted(one, asked(schema=schema), {}, ())
                deep = [asked(field("c", "x", field("c", "y", *row.rows)), schema=schema) for row in (one, other)]
                self.assert_parted(*deep, {}, (("x", "box"), ("y", "box")))

    def test_parted_deeper(self):
        def at(*rows):
            return asked(field("near", "a", field("lid", "b", field("of", "c", *rows))), KIND)

        way = (("a", "box"), ("b", "cap"), ("c", "box"))
        self.assert_parted(at(KIND), at(), {}, way)
        self.assert_parted(at(SIZE), at(KIND), {}, way)
        self.assert_parted(at(field("near", "d")), at(field("near", "e")), {}, way)

    def test_parted_at_four_pairs(self):
        def at(*rows):
            for _ in range(4):
                rows = (field("near", "a", *rows),)
            return asked(*rows)

        self.assert_parted(at(KIND), at(), {}, (("a", "box"),) * 4)
        self.assert_parted(at(SIZE), at(KIND), {}, (("a", "box"),) * 4)
        self.assert_alike(at(KIND), at(KIND, KIND))

    def test_under_one_kind_alone(self):
        self.assert_parted(asked(field("one", "a", KIND)), asked(field("one", "a", on("box", KIND))), {}, (("a", "cap"),))
        self.assert_parted(asked(field("one", "a", KIND)), asked(field("one", "a", on("cap", KIND))), {}, (("a", "box"),))
        self.assert_parted(asked(field("one", "a", on("cap", SIZE), on("box", KIND))),
                           asked(field("one", "a", on("cap", SIZE, KIND), on("box", KIND))), {}, (("a", "cap"),))

    def test_fields_over_faces(self):
        name = field("name", "n")
        one = asked(field("pets", "p", name), schema=pet_schema())
        self.assert_alike(one, asked(field("pets", "p", on("cat", name), on("dog", name)), schema=pet_schema()))
        self.assert_parted(one, asked(field("pets", "p", on("any", on("dog", name))), schema=pet_schema()), {}, (("p", "cat"),))

    def test_under_some_truths_alone(self):
        one = asked(asked_if("f", True, KIND))
        self.assert_parted(one, asked(KIND), {"f": False}, ())
        self.assert_parted(one, asked(), {"f": True}, ())
        self.assert_parted(one, asked(asked_if("f", False, KIND)), {"f": False}, ())

    def test_common_and_unlike_flags(self):
        one = asked(asked_if("f", True, KIND), asked_if("g", True, SIZE))
        self.assert_parted(one, asked(asked_if("h", True, KIND), asked_if("g", True, SIZE)), {"f": False, "g": False, "h": True}, ())
        self.assert_parted(one, asked(asked_if("f", True, KIND), asked_if("e", False, asked_if("g", True, SIZE))),
                           {"e": True, "f": False, "g": True}, ())
        self.assert_parted(asked(asked_if("b", True, asked_if("a", False, asked_if("c", True, KIND)))), asked(),
                           {"a": False, "b": True, "c": True}, ())

    def test_six_flags(self):
        one = asked(asked_if("a", True, asked_if("c", True, asked_if("e", True, KIND))), SIZE)
        other = asked(asked_if("b", True, asked_if("d", True, asked_if("f", True, KIND))), SIZE)
        flags = {"a": False, "b": True, "c": False, "d": True, "e": False, "f": True}
        self.assert_parted(one, other, flags, ())

    def test_fewest_pairs_come_before_truths(self):
        one = asked(asked_if("f", False, field("near", "a", KIND)), asked_if("f", True, field("near", "a")))
        other = asked(field("near", "a"), asked_if("f", True, KIND))
        self.assert_parted(one, other, {"f": True}, ())
        other = asked(field("near", "a"), asked_if("f", True, field("near", "a", KIND)))
        self.assert_parted(one, other, {"f": False}, (("a", "box"),))

    def test_truths_come_before_ways(self):
        one = asked(field("near", "a", asked_if("f", True, KIND)), field("near", "b", asked_if("f", False, KIND)))
        other = asked(field("near", "a"), field("near", "b"))
        self.assert_parted(one, other, {"f": False}, (("b", "box"),))
        one = asked(asked_if("b", False, asked_if("a", True, KIND)), asked_if("a", False, asked_if("b", True, KIND)))
        self.assert_parted(one, asked(), {"a": False, "b": True}, ())

    def test_the_least_way(self):
        one = asked(field("one", "c", KIND), field("one", "b", on("cap", KIND)), field("near", "ba"))
        other = asked(field("one", "c"), field("one", "b"), field("near", "ba", KIND))
        self.assert_parted(one, other, {}, (("b", "cap"),))
        one = asked(field("one", "b", field_of("cap", KIND), on("box", field("lid", "a", KIND))), field("one", "c"))
        other = asked(field("one", "b", field_of("cap"), on("box", field("lid", "a"))), field("one", "c"))
        self.assert_parted(one, other, {}, (("b", "box"), ("a", "cap")))
        other = asked(field("one", "b", field_of("cap"), on("box", field("lid", "a"))), field("one", "c", on("cap", KIND)))
        self.assert_parted(one, other, {}, (("c", "cap"),))

    def test_ways_that_lead_to_the_same_rows(self):
        def at(*rows):
            return asked(field("near", "b", field("near", "z", ("part", "p"))), field("near", "c", field("near", "a", ("part", "p"))),
                         parts={"p": ("box", rows)})

        self.assert_parted(at(KIND), at(), {}, (("b", "box"), ("z", "box")))
        self.assert_parted(at(field("one", "y", KIND)), at(field("one", "y")), {}, (("b", "box"), ("z", "box"), ("y", "box")))

    def test_sure_fields_on_all_sides(self):
        kinds = {
            "a": (("face",), {"x": ("sure", ("list", ("sure", "face"))), "y": ("sure", "any"), "z": ("sure", "number")}),
            "b": (("face",), {"x": ("sure", ("list", ("sure", "face"))), "y": ("list", ("sure", "c"))}),
            "c": ((), {"x": ("sure", "a"), "t": ("sure", "text")}),
        }
        faces = {"face": {"x": ("sure", ("list", ("sure", "face")))}}
        schema = Schema(kinds, faces, {"any": ("c", "b")}, "a")
        z = field("z", "z")

        def at(*rows):
            return asked(z, field("y", "y", on("c", field("t", "t"), field("x", "x", z, field("y", "y", *rows)))), schema=schema)

        way = (("y", "c"), ("x", "a"), ("y", "b"))
        self.assert_parted(at(("kind", "k")), at(), {}, way)
        self.assert_parted(asked(z, schema=schema), asked(field("y", "z"), schema=schema), {}, ())
        self.assert_alike(asked(field("x", "x", on("face", z_of("x"))), schema=schema),
                          asked(field("x", "x", on("a", z_of("x")), on("b", z_of("x"))), schema=schema))

    def test_six_kinds_that_lead_to_each_other(self):
        kinds = {kind: ((), {name: ("sure", below) for name, below in zip("abcde", "uvwxyz")}) for kind in "uvwxyz"}
        kinds["z"][1]["a"] = ("sure", "z")
        schema = Schema(kinds, {}, {}, "w")
        rows = [field("e", "l", field("d", "m", field("c", "n", field("b", "o", *inner)))) for inner in ([KIND], [])]
        way = (("l", "y"), ("m", "x"), ("n", "w"), ("o", "v"))
        self.assert_parted(asked(rows[0], schema=schema), asked(rows[1], schema=schema), {}, way)

    def test_errors(self):
        clashing = asked(KIND, field("size", "k"))
        other = asked(schema=pet_schema())
        for call in (parted, alike):
            error_of(UnlikeSchemas, call, clashing, other)
            error_of(UnlikeSchemas, call, other, clashing)
            self.assertEqual(error_of(Clash, call, clashing, asked()).way, ("k",))
            self.assertEqual(error_of(Clash, call, asked(KIND), clashing).way, ("k",))
            self.assertEqual(error_of(Clash, call, clashing, clashing).way, ("k",))

    def test_clashes_in_the_order_of_the_truths(self):
        def clashing(flag, wanted, key):
            return asked(asked_if(flag, wanted, ("kind", key), field("near", key)))

        for call in (parted, alike):
            self.assertEqual(error_of(Clash, call, clashing("f", True, "a"), clashing("f", False, "b")).way, ("b",))
            self.assertEqual(error_of(Clash, call, clashing("f", False, "b"), clashing("f", False, "a")).way, ("b",))
            self.assertEqual(error_of(Clash, call, clashing("f", True, "b"), clashing("f", True, "a")).way, ("b",))
            self.assertEqual(error_of(Clash, call, clashing("f", True, "b"), clashing("g", True, "a")).way, ("a",))
            self.assertEqual(error_of(Clash, call, clashing("g", True, "b"), clashing("f", True, "a")).way, ("b",))
            self.assertEqual(error_of(Clash, call, clashing("f", True, "b"), clashing("f", False, "c")).way, ("c",))

    def test_clashes_have_the_least_way_of_keys(self):
        one = asked(("kind", "b"), field("near", "b"), field("near", "a", field("near", "z", KIND, field("size", "k"))))
        self.assertEqual(error_of(Clash, parted, one, asked()).way, ("a", "z", "k"))
        self.assertEqual(error_of(Clash, parted, asked(), one).way, ("a", "z", "k"))
        one = asked(field("one", "x", on("box", ("kind", "b"), field("near", "b")), on("cap", ("kind", "a"), field("size", "a"))))
        self.assertEqual(error_of(Clash, alike, one, asked()).way, ("x", "a"))

    def test_equal_schemas_are_enough(self):
        kinds = {"box": (("f", "g"), {"a": "u", "b": "text"})}
        schemas = [Schema(kinds, {"f": {"a": "u"}, "g": {"b": "text"}}, {"u": ("box",)}, "box") for _ in range(2)]
        self.assert_alike(asked(KIND, schema=schemas[0]), asked(KIND, schema=schemas[1]))

    def test_results_are_new(self):
        one, other = asked(asked_if("f", True, KIND)), asked()
        parted(one, other)[0].clear()
        self.assertEqual(parted(one, other)[0], {"f": True})

    def test_many_ways_and_truths(self):
        kinds = {kind: (("any",), {"go": ("sure", ("list", "any"))}) for kind in "uvwxyz"}
        schema = Schema(kinds, {"any": {"go": ("sure", ("list", "any"))}}, {}, "z")

        def at(flags, *rows):
            parts = {"p": ("any", tuple(field("go", key, ("part", "q")) for key in "fedcba")), "q": ("any", rows)}
            flagged = asked_if(flags[0], True, asked_if(flags[1], True, asked_if(flags[2], True)))
            return asked(flagged, *[field("go", key, ("part", "p")) for key in "edcba"], schema=schema, parts=parts)

        flags = {flag: False for flag in "bdfhjl"}
        self.assert_parted(at("bfj", KIND), at("dhl"), flags, (("a", "u"), ("a", "u")))
        self.assert_alike(at("bfj", KIND, field("go", "g")), at("dhl", field("go", "g"), KIND))


def field_of(kind, *rows):
    return on(kind, field("of", "z", *rows))


def z_of(name):
    return field(name, "w", on("a", field("z", "z")))


if __name__ == "__main__":
    unittest.main()
