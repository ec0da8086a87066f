"""Points [9.1] to [9.5], and the interface of nestedwishes/clashes.py."""

import unittest

from nestedwishes.clashes import clash, written
from nestedwishes.questions import Question
from nestedwishes.schemas import Schema
from tests.helpers import box_schema, pet_schema

BOX = box_schema()
KIND = ("kind", "k")
SIZE = ("field", "size", "s", ())


def field(name, key, *rows):
    return ("field", name, key, tuple(rows))


def on(base, *rows):
    return ("on", base, tuple(rows))


def asked_if(flag, wanted, *rows):
    return ("if", flag, wanted, tuple(rows))


def use(name):
    return ("part", name)


def asked(*rows, schema=BOX, parts=None):
    return Question(schema, tuple(rows), parts or {})


def shaped(**shapes):
    """A schema with a box, which has fields of these shapes, and with a cap and a pin, which have a part of them."""
    kinds = {"box": ((), {**shapes, "any": "all"}), "cap": ((), {"n": "number"}), "pin": ((), {"n": "number", "m": "number"})}
    return Schema(kinds, {}, {"all": ("box", "cap", "pin")}, "box")


class Clashing(unittest.TestCase):
    """[9.1] to [9.3]."""

    def assert_clash(self, expected, *rows, schema=BOX, parts=None):
        question = asked(*rows, schema=schema, parts=parts)
        self.assertEqual(clash(question), expected)
        if expected is not None:
            self.assertIs(type(clash(question)), tuple)
            self.assertIs(type(clash(question)[0]), dict)
            self.assertIs(type(clash(question)[1]), tuple)
            self.assertIsNotNone(written(question))

    def test_example_of_the_interface(self):
        schema = Schema({"box": ((), {"size": "number"})}, {}, {}, "box")
        rows = (("field", "size", "s", ()), ("if", "deep", True, (("kind", "s"),)))
        self.assertEqual(clash(Question(schema, rows, {})), ({"deep": True}, (), "s", "", "size"))
        self.assertEqual(written(Question(schema, rows, {})), ((), "s"))

    def test_no_clash(self):
        self.assert_clash(None)
        self.assert_clash(None, KIND, KIND, SIZE, SIZE, field("near", "n", KIND, field("near", "s")))
        self.assert_clash(None, field("one", "a", on("box", KIND), on("cap", field("size", "k"))))
        self.assert_clash(None, asked_if("f", True, KIND), asked_if("f", False, field("size", "k")))
        self.assert_clash(None, KIND, on("cap", field("size", "k")))
        self.assert_clash(None, KIND, parts={"p": ("box", (KIND, field("size", "k")))})

    def test_kinds_against_fields(self):
        self.assert_clash(({}, (), "k", "", "size"), KIND, field("size", "k"))
        self.assert_clash(({}, (), "k", "", "near"), field("near", "k"), KIND)
        self.assert_clash(({}, (), "k", "lid", "near"), field("near", "k"), field("lid", "k"))

    def test_the_two_least_names(self):
        rows = [field("size", "k"), field("one", "k"), field("near", "k"), field("lid", "k")]
        self.assert_clash(({}, (), "k", "lid", "near"), *rows)
        self.assert_clash(({}, (), "k", "", "lid"), *rows, KIND)
        self.assert_clash(({}, (), "k", "near", "one"), *rows[:3])

    def test_only_under_some_truths(self):
        self.assert_clash(({"f": False}, (), "k", "", "size"), asked_if("f", False, KIND), field("size", "k"))
        rows = [asked_if("f", True, KIND), asked_if("g", True, field("size", "k")), asked_if("h", True, field("near", "k"))]
        self.assert_clash(({"f": False, "g": True, "h": True}, (), "k", "near", "size"), *rows)
        self.assert_clash(({"f": True, "g": True}, (), "k", "", "size"), *rows[:2])

    def test_all_flags_are_told(self):
        rows = [KIND, field("size", "k"), on("cap", asked_if("c", True))]
        self.assert_clash(({"a": False, "c": False}, (), "k", "", "size"), *rows, parts={"p": ("box", (asked_if("a", False),))})

    def test_only_for_some_kinds(self):
        rows = field("one", "a", KIND, on("cap", field("size", "k")))
        self.assert_clash(({}, (("a", "cap"),), "k", "", "size"), rows)
        rows = field("one", "a", on("box", field("near", "x")), on("cap", field("of", "x")), on("box", field("lid", "x")))
        self.assert_clash(({}, (("a", "box"),), "x", "lid", "near"), rows)

    def test_over_parts(self):
        parts = {"p": ("thing", (KIND,)), "q": ("cap", (field("size", "k"),)), "r": ("box", (use("p"), use("q")))}
        self.assert_clash(None, use("r"), parts=parts)
        self.assert_clash(({}, (("a", "cap"),), "k", "", "size"), field("one", "a", use("p"), use("q")), parts=parts)
        self.assert_clash(({}, (), "k", "", "one"), use("r"), field("one", "k"), parts=parts)

    def test_over_faces(self):
        rows = field("pets", "p", field("name", "x"), on("dog", field("chases", "x")))
        self.assert_clash(({}, (("p", "dog"),), "x", "chases", "name"), rows, schema=pet_schema())

    def test_below_keys_that_clash_nothing_meets(self):
        rows = [field("near", "x", KIND, field("size", "k")), field("lid", "x", KIND, field("size", "k"))]
        self.assert_clash(({}, (), "x", "lid", "near"), *rows)
        deep = field("near", "a", field("near", "x", field("near", "y", KIND, field("size", "k"))))
        other = field("near", "a", asked_if("f", True, field("lid", "x")))
        self.assert_clash(({"f": True}, (("a", "box"),), "x", "lid", "near"), deep, other)

    def test_a_clash_that_another_one_covers_under_some_truths(self):
        rows = [field("near", "x", KIND, field("size", "k")), asked_if("f", False, field("one", "x"))]
        self.assert_clash(({"f": False}, (), "x", "near", "one"), *rows)
        rows = [field("near", "y", field("near", "x", KIND, field("size", "k")), asked_if("f", True, field("one", "x"))),
                field("near", "z", field("near", "z", asked_if("f", True, KIND, field("size", "k"))))]
        self.assert_clash(({"f": True}, (("y", "box"),), "x", "near", "one"), *rows)
        rows = [field("near", "y", field("near", "x", KIND, field("size", "k"))), asked_if("f", False, field("one", "y")), KIND]
        self.assert_clash(({"f": False}, (), "y", "near", "one"), *rows)

    def test_rows_that_were_put_together(self):
        rows = [field("near", "a", field("one", "b", KIND)), field("near", "a", field("one", "b", on("cap", field("of", "k"))))]
        self.assert_clash(({}, (("a", "box"), ("b", "cap")), "k", "", "of"), *rows)

    def test_fewest_pairs_come_first(self):
        rows = [field("near", "a", asked_if("f", False, KIND), field("size", "k")), asked_if("f", True, KIND), field("lid", "k")]
        self.assert_clash(({"f": True}, (), "k", "", "lid"), *rows)

    def test_truths_come_before_ways(self):
        rows = [field("near", "a", asked_if("f", True, KIND), field("size", "k")),
                field("near", "b", asked_if("f", False, KIND), field("size", "k"))]
        self.assert_clash(({"f": False}, (("b", "box"),), "k", "", "size"), *rows)
        rows = [asked_if("a", True, KIND), asked_if("b", True, ("kind", "l")), field("size", "k"), field("size", "l")]
        self.assert_clash(({"a": False, "b": True}, (), "l", "", "size"), *rows)

    def test_ways_come_before_keys(self):
        rows = [field("near", "b", ("kind", "a"), field("size", "a")), field("near", "a", ("kind", "b"), field("size", "b"))]
        self.assert_clash(({}, (("a", "box"),), "b", "", "size"), *rows)
        rows = [field("one", "a", on("cap", ("kind", "a"), field("size", "a")), on("box", ("kind", "z"), field("size", "z")))]
        self.assert_clash(({}, (("a", "box"),), "z", "", "size"), *rows)

    def test_the_least_key(self):
        rows = [field("size", "k"), ("kind", "c"), field("size", "c"), KIND, field("near", "cc"), ("kind", "cc")]
        self.assert_clash(({}, (), "c", "", "size"), *rows)

    def test_ways_that_lead_to_the_same_rows(self):
        parts = {"p": ("box", (KIND, field("size", "k")))}
        rows = [field("near", "b", field("near", "a", use("p"))), field("near", "a", field("near", "b", use("p")))]
        self.assert_clash(({}, (("a", "box"), ("b", "box")), "k", "", "size"), *rows, parts=parts)

    def test_as_deep_as_it_goes(self):
        rows = [KIND, field("size", "k")]
        for _ in range(4):
            rows = [field("near", "a", *rows)]
        self.assert_clash(({}, (("a", "box"),) * 4, "k", "", "size"), *rows)

    def test_results_are_new(self):
        question = asked(KIND, asked_if("f", True, field("size", "k")))
        clash(question)[0].clear()
        self.assertEqual(clash(question)[0], {"f": True})


class WrittenRule(unittest.TestCase):
    """[9.4] and [9.5]."""

    def assert_written(self, expected, *rows, schema=BOX, parts=None):
        question = asked(*rows, schema=schema, parts=parts)
        self.assertEqual(written(question), expected)
        self.assertIs(type(written(question)), type(expected))
        if expected is None:
            self.assertIsNone(clash(question))

    def test_no_conflict(self):
        self.assert_written(None)
        self.assert_written(None, KIND, KIND, SIZE, SIZE)
        self.assert_written(None, field("near", "a", SIZE), field("near", "a", SIZE, KIND), field("near", "k"))

    def test_strict_fields_with_unlike_names(self):
        self.assert_written(((), "k"), field("near", "k"), field("one", "k"))
        self.assert_written(((), "k"), field("near", "k"), field("near", "k"), field("lid", "k"))
        schema = shaped(a="text", b="text", c=("sure", "text"))
        self.assert_written(((), "k"), field("a", "k"), field("b", "k"), schema=schema)
        self.assert_written(((), "k"), field("c", "k"), KIND, schema=schema)
        self.assert_written(((), "k"), field("a", "k"), KIND, schema=schema)

    def test_bases_that_are_no_kinds_are_strict(self):
        def both(first, second):
            return field("any", "x", first, second)

        schema = shaped(c=("sure", "text"))
        self.assert_written((("x",), "k"), both(on("box", field("c", "k")), KIND), schema=schema)
        self.assert_written(None, both(on("box", field("c", "k")), on("cap", KIND)), schema=schema)
        self.assert_written(None, both(on("box", on("all", KIND)), on("cap", on("all", KIND))), schema=schema)
        self.assert_written((("x",), "k"), both(on("box", field("c", "k")), on("cap", on("all", KIND))), schema=schema)
        self.assert_written((("x",), "k"), both(on("box", on("all", KIND)), on("pin", on("box", field("c", "k")))), schema=schema)
        self.assert_written(None, both(on("cap", field("n", "k")), on("pin", field("m", "k"))), schema=schema)
        self.assert_written((("x",), "k"), both(on("pin", field("n", "k")), on("pin", field("m", "k"))), schema=schema)

    def test_fields_of_faces_are_strict(self):
        kinds = {"a": (("f",), {"x": "number", "y": "number"}), "b": (("g",), {"z": "number"}), "r": ((), {"to": "all"})}
        schema = Schema(kinds, {"f": {"x": "number"}, "g": {"z": "number"}}, {"all": ("a", "b")}, "r")
        self.assert_written((("t",), "k"), field("to", "t", on("f", field("x", "k")), on("g", field("z", "k"))), schema=schema)
        self.assert_written((("t",), "k"), field("to", "t", on("f", field("x", "k")), on("b", field("z", "k"))), schema=schema)
        self.assert_written(None, field("to", "t", on("a", field("x", "k")), on("b", field("z", "k"))), schema=schema)
        self.assert_written((("t",), "k"), field("to", "t", on("f", field("x", "k")), on("a", field("y", "k"))), schema=schema)
        self.assert_written(None, field("to", "t", on("f", field("x", "k")), on("a", field("x", "k"))), schema=schema)

    def test_shapes_that_match_or_not(self):
        shapes = [
            "number", "text", "box", "cap", "all", ("list", "number"), ("list", "text"), ("list", "box"), ("list", "all"),
            ("sure", "number"), ("sure", "text"), ("sure", "cap"), ("sure", ("list", "number")), ("list", ("sure", "number")),
            ("sure", ("list", ("sure", "number"))), ("list", ("list", "number")), ("list", ("list", "pin")),
            ("list", ("sure", "box")), ("sure", ("list", "all")), ("list", ("sure", ("list", "box"))),
            ("sure", ("list", ("list", "cap"))), ("list", ("list", ("sure", "all"))),
        ]
        groups = {}
        for shape in shapes:
            groups.setdefault(repr(shape).translate(str.maketrans("", "", "()' ")).replace("box", "thing").replace("cap", "thing")
                              .replace("all", "thing").replace("pin", "thing"), []).append(shape)
        self.assertEqual((len(shapes), len(groups)), (22, 19))
        for name, group in groups.items():
            for other_name, others in groups.items():
                for shape in group:
                    for other in others:
                        # The two fields stand at unlike kinds, so that only their shapes count.
                        kinds = {"box": ((), {"to": "all"}), "cap": ((), {"a": shape}), "pin": ((), {"b": other})}
                        schema = Schema(kinds, {}, {"all": ("box", "cap", "pin")}, "box")
                        rows = field("to", "x", on("cap", field("a", "k")), on("pin", field("b", "k")))
                        self.assert_written(None if name == other_name else (("x",), "k"), rows, schema=schema)

    def test_a_kind_has_a_sure_text(self):
        for shape in [("sure", "text"), "text", ("list", "text"), ("sure", "number"), ("sure", "box"), "box"]:
            schema = Schema({"box": ((), {"to": "all"}), "cap": ((), {"a": shape})}, {}, {"all": ("box", "cap")}, "box")
            rows = field("to", "x", on("cap", field("a", "k")), on("box", KIND))
            self.assert_written(None if shape == ("sure", "text") else (("x",), "k"), rows, schema=schema)

    def test_flags_do_not_count(self):
        self.assert_written(((), "k"), asked_if("f", True, KIND), asked_if("f", False, field("size", "k")))
        self.assert_written(((), "k"), asked_if("f", True, asked_if("f", False, KIND)), field("size", "k"))
        self.assertIsNone(clash(asked(asked_if("f", True, KIND), asked_if("f", False, field("size", "k")))))

    def test_idle_statements_count(self):
        self.assert_written(((), "k"), KIND, on("cap", field("size", "k")))
        self.assert_written((("a",), "s"), field("near", "a", SIZE, on("cap", on("box", on("cap", field("of", "s"))))))

    def test_parts(self):
        parts = {"p": ("box", (KIND, use("q"))), "q": ("thing", (on("box", field("size", "k")),))}
        self.assert_written(((), "k"), use("p"), parts=parts)
        self.assert_written((("n",), "k"), field("near", "n", use("p")), parts=parts)
        self.assert_written(None, use("q"), parts=parts)
        self.assert_written(((), "k"), use("q"), KIND, parts=parts)
        self.assert_written(None, KIND, parts=parts)
        self.assert_written(None, use("q"), use("q"), field("size", "k"), parts=parts)

    def test_a_part_stands_at_its_own_base(self):
        parts = {"p": ("cap", (field("of", "k"),)), "q": ("box", (field("near", "k"),)), "r": ("thing", (on("box", field("lid", "k")),))}
        self.assert_written(None, field("one", "a", use("p"), use("q")), parts=parts)
        self.assert_written((("a",), "k"), field("one", "a", use("q"), use("r")), parts=parts)
        self.assert_written(None, field("one", "a", use("p"), use("r")), parts=parts)

    def test_fields_that_conflict_below_a_field_with_itself(self):
        self.assert_written((("a",), "k"), field("near", "a", KIND, field("size", "k")))
        self.assert_written((("a", "b"), "k"), field("near", "a", field("one", "b", KIND, on("box", field("one", "k")))))

    def test_fields_that_conflict_below_two_fields(self):
        self.assert_written((("a",), "k"), field("near", "a", KIND), field("near", "a", field("size", "k")))
        self.assert_written((("a", "b"), "k"), field("near", "a", field("near", "b", KIND)),
                            on("box", field("near", "a", field("near", "b", field("size", "k")))))

    def test_pairs_around_that_are_not_strict(self):
        one, other = field("of", "b", field("near", "k")), field("near", "b", field("lid", "k"))
        self.assert_written(None, field("one", "a", on("cap", one), on("box", other)))
        self.assert_written((("a", "b"), "k"), field("one", "a", on("cap", one, field("of", "b", field("lid", "k"))), on("box", other)))
        self.assert_written((("a", "b"), "k"), field("one", "a", on("cap", one), on("box", field("near", "b", field("size", "k")))))
        deep = [on("cap", field("of", "b", field("near", "c", field("near", "k")))),
                on("box", field("near", "b", field("near", "c", field("lid", "k"))))]
        self.assert_written(None, field("one", "a", *deep))

    def test_strict_around_once_more(self):
        # Through c the two fields meet at unlike kinds; through d, the same kind alone leads to them.
        apart = field("one", "c", on("cap", field("of", "x", field("near", "k"))), on("box", field("near", "x", field("lid", "k"))))
        together = field("one", "d", on("cap", field("of", "x", field("near", "k"), field("lid", "k"))))
        self.assert_written((("d", "x"), "k"), apart, together)

    def test_leaves_have_no_rows(self):
        schema = shaped(a="number", b="box", c="number")
        self.assert_written(((), "k"), field("a", "k"), field("b", "k", KIND, field("a", "k")), schema=schema)
        self.assert_written(((), "k"), field("a", "k"), field("c", "k"), schema=schema)

    def test_the_fewest_keys(self):
        rows = [field("near", "a", KIND, field("size", "k")), field("size", "z"), ("kind", "z")]
        self.assert_written(((), "z"), *rows)
        rows = [field("near", "a", field("near", "a", KIND, field("size", "k"))), field("near", "b", KIND, field("size", "k"))]
        self.assert_written((("b",), "k"), *rows)

    def test_the_least_way_and_the_least_key(self):
        rows = [field("near", "b", ("kind", "a"), field("size", "a")), field("near", "ab", ("kind", "z"), field("size", "z")),
                field("near", "ab", ("kind", "y"), field("size", "y"))]
        self.assert_written((("ab",), "y"), *rows)
        self.assert_written(((), "c"), KIND, field("size", "k"), ("kind", "c"), field("size", "c"))
        parts = {"p": ("box", (KIND, field("size", "k")))}
        rows = [field("near", "b", field("near", "a", use("p"))), field("near", "a", field("near", "b", use("p")))]
        self.assert_written((("a", "b"), "k"), *rows, parts=parts)

    def test_ways_that_lead_to_one_set(self):
        parts = {"p": ("box", (field("near", "x", KIND, field("size", "k")),))}
        for keys in (["a", "b", "c"], ["c", "b", "a"], ["b", "a", "c"]):
            self.assert_written((("a", "x"), "k"), *[field("near", key, use("p")) for key in keys], parts=parts)

    def test_many_fields_of_one_key(self):
        parts = {"p": ("box", (field("near", "a", use("q")),) * 6), "q": ("box", (field("near", "a"),) * 5 + (field("near", "b"),))}
        self.assert_written(None, *[field("near", "a", use("p"))] * 6, parts=parts)
        parts["q"] = ("box", (field("near", "a"),) * 5 + (KIND,))
        parts["r"] = ("box", (field("near", "a", field("lid", "a")),))
        self.assert_written((("a", "a"), "a"), *[field("near", "a", use("p"))] * 5, field("near", "a", use("r")), parts=parts)

    def test_written_conflicts_that_are_no_clashes(self):
        question = asked(field("one", "a", on("box", field("size", "k")), on("cap", KIND)))
        self.assertEqual(written(question), (("a",), "k"))
        self.assertIsNone(clash(question))


if __name__ == "__main__":
    unittest.main()
