"""Points [2], [3] and [6.1] to [6.7], and the interface of nestedwishes/forms.py."""

import copy
import unittest

from nestedwishes.errors import BadFlags, Clash, NoPlace
from nestedwishes.forms import applies, fixed, plain, pruned
from nestedwishes.questions import Question
from nestedwishes.schemas import Schema
from tests.helpers import box_schema, error_of, odd_values, pet_schema

BOX = box_schema()
PETS = pet_schema()
KIND = ("kind", "k")
SIZE = ("field", "size", "s", ())
MARKER = ("", None)
NUMBER = ("size", None)


def near(key, *rows):
    return ("field", "near", key, tuple(rows))


def one(key, *rows):
    return ("field", "one", key, tuple(rows))


def on(base, *rows):
    return ("on", base, tuple(rows))


def asked_if(flag, wanted, *rows):
    return ("if", flag, wanted, tuple(rows))


def use(name):
    return ("part", name)


def question_of(rows, parts=None, schema=BOX):
    return Question(schema, tuple(rows), {} if parts is None else parts)


def form_of(rows, parts=None, flags=None, schema=BOX):
    return plain(question_of(rows, parts, schema), {} if flags is None else flags)


class Flags(unittest.TestCase):
    """[6.1]."""

    def test_right_flags(self):
        question = question_of([asked_if("f", True, KIND), asked_if("g", False, SIZE)])
        expected = {
            (True, True): {"k": MARKER}, (True, False): {"k": MARKER, "s": NUMBER}, (False, True): {},
            (False, False): {"s": NUMBER},
        }
        for (first, second), form in expected.items():
            self.assertEqual(plain(question, {"f": first, "g": second}), form)
            self.assertEqual(plain(question, {"g": second, "f": first}), form)

    def test_flags_of_parts_count(self):
        question = question_of([KIND], {"p": ("cap", (asked_if("f", True),))})
        self.assertEqual(plain(question, {"f": True}), {"k": MARKER})
        self.assertEqual(fixed(question, {"f": True}).parts(), {"p": ("cap", (on("cap"),))})
        error_of(BadFlags, plain, question, {})
        error_of(BadFlags, fixed, question, {})

    def test_refused_flags(self):
        question = question_of([asked_if("f", True, KIND), asked_if("g", False, SIZE)])
        wrong = [
            {}, {"f": True}, {"g": False}, {"f": True, "g": False, "h": True}, {"f": True, "h": True}, {"f": 1, "g": 0},
            {"f": True, "g": 0}, {"f": 1, "g": True}, {"f": True, "g": None}, {"f": True, "g": "True"},
            {"f": True, "g": []}, {"f": True, 0: True}, {"f": True, b"g": True}, {"f": True, None: True},
            [("f", True), ("g", True)], ["f", "g"], (True, True), ("f", "g"), "fg", None, True, 0, {"f", "g"},
            {("f", "g"): True}, {"f": {"g": True}, "g": True},
        ]
        for flags in [*wrong, *odd_values()]:
            with self.subTest(flags=str(type(flags))):
                error_of(BadFlags, plain, question, flags)
                error_of(BadFlags, fixed, question, flags)

    def test_refused_flags_of_a_question_without_flags(self):
        for flags in odd_values():
            if flags != {}:
                error_of(BadFlags, plain, question_of([KIND]), flags)
                error_of(BadFlags, fixed, question_of([KIND]), flags)
        self.assertEqual(plain(question_of([KIND]), {}), {"k": MARKER})

    def test_bad_flags_come_before_clashes(self):
        question = question_of([KIND, ("field", "size", "k", ())])
        error_of(BadFlags, plain, question, {"f": True})
        error_of(Clash, plain, question, {})


class PlainForms(unittest.TestCase):
    """[6.2], [6.3]."""

    def test_example_of_the_document(self):
        kinds = {"cat": ((), {"size": "number"}), "dog": ((), {"size": "number"}), "person": ((), {"likes": "animal"})}
        schema = Schema(kinds, {}, {"animal": ("cat", "dog")}, "person")
        rows = (("field", "likes", "x", (("kind", "k"), ("on", "dog", (("field", "size", "s", ()),)))),)
        expected = {"x": ("likes", {"cat": {"k": ("", None)}, "dog": {"k": ("", None), "s": ("size", None)}})}
        self.assertEqual(plain(Question(schema, rows, {}), {}), expected)

    def test_no_rows(self):
        self.assertEqual(form_of([]), {})
        self.assertEqual(form_of([near("a")]), {"a": ("near", {"box": {}})})
        self.assertEqual(form_of([one("a")]), {"a": ("one", {"box": {}, "cap": {}})})

    def test_leaves_and_kind_markers(self):
        self.assertEqual(form_of([SIZE, KIND]), {"s": NUMBER, "k": MARKER})
        rows = (("field", "name", "a", ()), ("field", "pets", "b", (("field", "name", "c", ()),)))
        below = {"c": ("name", None)}
        expected = {"a": ("name", None), "b": ("pets", {"cat": below, "dog": below})}
        self.assertEqual(form_of(rows, schema=PETS), expected)

    def test_wrapped_leaves(self):
        schema = Schema({"a": ((), {"b": ("list", ("sure", "text"))})}, {}, {}, "a")
        self.assertEqual(form_of([("field", "b", "c", ())], schema=schema), {"c": ("b", None)})

    def test_on_asks_members_only(self):
        rows = [on("box", SIZE), on("cap", KIND), on("thing", ("kind", "t"))]
        self.assertEqual(form_of(rows), {"s": NUMBER, "t": MARKER})
        expected = {"a": ("one", {"box": {"s": NUMBER, "t": MARKER}, "cap": {"k": MARKER, "t": MARKER}})}
        self.assertEqual(form_of([one("a", *rows)]), expected)

    def test_on_over_faces(self):
        name = ("field", "name", "n", ())
        rows = [on("pet", name), ("field", "likes", "a", (on("pet", name), on("any", KIND)))]
        expected = {"a": ("likes", {"dog": {"n": ("name", None), "k": MARKER}, "person": {"k": MARKER}})}
        self.assertEqual(form_of(rows, schema=PETS), expected)
        rows = [("field", "pets", "a", (on("any", KIND), on("dog", ("field", "chases", "c", ()))))]
        expected = {"a": ("pets", {"cat": {}, "dog": {"k": MARKER, "c": ("chases", {"cat": {}})}})}
        self.assertEqual(form_of(rows, schema=PETS), expected)

    def test_part_asks_members_only(self):
        parts = {"p": ("cap", (SIZE,)), "q": ("thing", (KIND,)), "r": ("box", (use("p"), use("q"), near("n")))}
        expected = {"a": ("one", {"box": {"k": MARKER, "n": ("near", {"box": {}})}, "cap": {"s": NUMBER}})}
        self.assertEqual(form_of([one("a", use("p"), use("r"))], parts), expected)
        self.assertEqual(form_of([use("p")], parts), {})

    def test_if_asks_under_its_flag_only(self):
        rows = [near("a", asked_if("f", True, KIND), asked_if("f", False, SIZE)), asked_if("f", False, ("kind", "b"))]
        self.assertEqual(form_of(rows, flags={"f": True}), {"a": ("near", {"box": {"k": MARKER}})})
        self.assertEqual(form_of(rows, flags={"f": False}), {"a": ("near", {"box": {"s": NUMBER}}), "b": MARKER})

    def test_ifs_inside_each_other(self):
        rows = [asked_if("f", True, asked_if("f", False, KIND), asked_if("g", False, SIZE))]
        self.assertEqual(form_of(rows, flags={"f": True, "g": False}), {"s": NUMBER})
        self.assertEqual(form_of(rows, flags={"f": False, "g": False}), {})
        self.assertEqual(form_of(rows, flags={"f": True, "g": True}), {})

    def test_entries_are_put_together(self):
        rows = [near("a", KIND), on("box", near("a", SIZE, near("b", KIND))), asked_if("f", True, near("a", KIND)),
                use("p"), KIND, KIND]
        parts = {"p": ("thing", (on("box", near("a", near("b", SIZE)), near("c")),))}
        below = {"k": MARKER, "s": NUMBER, "b": ("near", {"box": {"k": MARKER, "s": NUMBER}})}
        expected = {"a": ("near", {"box": below}), "c": ("near", {"box": {}}), "k": MARKER}
        for truth in (True, False):
            self.assertEqual(form_of(rows, parts, {"f": truth}), expected)

    def test_rows_over_a_face_and_its_kind_are_put_together(self):
        kinds = {"cat": (("pet",), {"mate": "cat", "name": "text"}), "root": ((), {"pets": "pet"})}
        schema = Schema(kinds, {"pet": {"mate": "cat"}}, {}, "root")
        name = ("field", "name", "n", ())
        rows = [("field", "pets", "p", (("field", "mate", "m", (KIND,)), on("cat", ("field", "mate", "m", (name,)))))]
        below = {"k": MARKER, "n": ("name", None)}
        expected = {"p": ("pets", {"cat": {"m": ("mate", {"cat": below})}})}
        self.assertEqual(form_of(rows, schema=schema), expected)

    def test_one_field_under_several_keys(self):
        rows = [near("a", KIND), near("b", SIZE), SIZE, ("field", "size", "t", ())]
        expected = {"a": ("near", {"box": {"k": MARKER}}), "b": ("near", {"box": {"s": NUMBER}}), "s": NUMBER, "t": NUMBER}
        self.assertEqual(form_of(rows), expected)

    def test_deep_forms(self):
        rows = [near("a", near("a", near("a", near("a", near("a")))))]
        form = {}
        for _ in range(5):
            form = {"a": ("near", {"box": form})}
        self.assertEqual(form_of(rows), form)

    def test_forms_are_new(self):
        question = question_of([one("a", KIND), one("c", KIND)])
        first = plain(question, {})
        before = copy.deepcopy(first)
        first["a"][1]["box"]["new"] = MARKER
        self.assertEqual(first["a"][1]["cap"], {"k": MARKER})
        self.assertEqual(first["c"][1], {"box": {"k": MARKER}, "cap": {"k": MARKER}})
        first.clear()
        self.assertEqual(plain(question, {}), before)

    def test_kinds_of_values(self):
        form = form_of([one("a", KIND), SIZE])
        self.assertIs(type(form), dict)
        self.assertIs(type(form["a"]), tuple)
        self.assertIs(type(form["a"][1]), dict)
        self.assertIs(type(form["a"][1]["cap"]), dict)

    def test_arguments_stay(self):
        flags = {"f": True}
        question = question_of([asked_if("f", True, use("p"))], {"p": ("box", (SIZE,))})
        plain(question, flags)
        fixed(question, flags)
        self.assertEqual(flags, {"f": True})
        self.assertTrue(question == question_of([asked_if("f", True, use("p"))], {"p": ("box", (SIZE,))}))


class Clashes(unittest.TestCase):
    """[6.2], [6.4]."""

    def way_of(self, rows, parts=None, flags=None, schema=BOX):
        error = error_of(Clash, form_of, rows, parts, flags, schema)
        self.assertIs(type(error.way), tuple)
        return error.way

    def test_example_of_the_interface(self):
        schema = Schema({"box": ((), {"near": "box"})}, {}, {}, "box")
        rows = (near("b", ("kind", "c"), near("c")), near("a"))
        self.assertEqual(self.way_of(rows, schema=schema), ("b", "c"))

    def test_names_that_clash(self):
        size = ("field", "size", "x", ())
        self.assertEqual(self.way_of([size, near("x")]), ("x",))
        self.assertEqual(self.way_of([near("x"), one("x")]), ("x",))
        self.assertEqual(self.way_of([("kind", "x"), size]), ("x",))
        self.assertEqual(self.way_of([size, ("kind", "x")]), ("x",))
        self.assertEqual(self.way_of([near("x"), ("kind", "x"), near("x"), ("kind", "x")]), ("x",))
        self.assertEqual(form_of([size, size]), {"x": NUMBER})

    def test_clashes_over_every_form(self):
        parts = {"p": ("thing", (KIND,)), "q": ("box", (near("k"),)), "r": ("cap", (KIND,))}
        self.assertEqual(self.way_of([use("p"), use("q")], parts), ("k",))
        self.assertEqual(self.way_of([on("thing", on("box", use("q"))), KIND], parts), ("k",))
        self.assertEqual(self.way_of([asked_if("f", False, use("q")), KIND], parts, {"f": False}), ("k",))
        self.assertEqual(list(form_of([asked_if("f", False, use("q")), KIND], parts, {"f": True})), ["k"])
        self.assertEqual(list(form_of([use("q"), use("r"), on("cap", KIND)], parts)), ["k"])

    def test_kinds_that_do_not_meet(self):
        rows = [one("a", on("box", near("x")), on("cap", ("kind", "x")))]
        expected = {"a": ("one", {"box": {"x": ("near", {"box": {}})}, "cap": {"x": MARKER}})}
        self.assertEqual(form_of(rows), expected)
        self.assertEqual(self.way_of([one("a", on("box", near("x")), on("thing", ("kind", "x")))]), ("a", "x"))

    def test_clashes_in_rows_that_were_put_together(self):
        rows = [near("a", near("b", KIND)), on("box", near("a", near("b", near("k"))))]
        self.assertEqual(self.way_of(rows), ("a", "b", "k"))

    def test_least_key(self):
        def pair(key):
            return [("kind", key), near(key)]

        self.assertEqual(self.way_of([*pair("c"), *pair("a"), *pair("b")]), ("a",))
        self.assertEqual(self.way_of([*pair("ab"), *pair("b")]), ("ab",))
        self.assertEqual(self.way_of([near("z", *pair("c"), *pair("b"))]), ("z", "b"))

    def test_least_way_at_several_depths(self):
        def pair(key):
            return [("kind", key), near(key)]

        self.assertEqual(self.way_of([*pair("b"), near("a", near("z", *pair("y")))]), ("a", "z", "y"))
        self.assertEqual(self.way_of([*pair("b"), near("c", near("a", *pair("a")))]), ("b",))
        self.assertEqual(self.way_of([near("a", near("a", *pair("z")), *pair("b"))]), ("a", "a", "z"))
        self.assertEqual(self.way_of([near("a", near("c", *pair("a")), *pair("b"))]), ("a", "b"))
        self.assertEqual(self.way_of([near("a", near("b")), near("b", *pair("a")), near("c", *pair("b"))]), ("b", "a"))

    def test_nothing_below_a_clash_is_less(self):
        rows = [near("a", ("kind", "b"), near("b")), one("a")]
        self.assertEqual(self.way_of(rows), ("a",))

    def test_least_way_over_several_kinds(self):
        boxes = on("box", near("z", ("kind", "z"), near("z")), ("kind", "b"), near("b"))
        caps = on("cap", ("field", "of", "a", (("kind", "c"), near("c"))))
        self.assertEqual(self.way_of([one("x", boxes, caps)]), ("x", "a", "c"))
        self.assertEqual(self.way_of([one("x", boxes)]), ("x", "b"))
        self.assertEqual(self.way_of([one("x", caps)]), ("x", "a", "c"))
        late = on("cap", ("field", "of", "c", (("kind", "c"), near("c"))))
        self.assertEqual(self.way_of([one("x", boxes, late)]), ("x", "b"))

    def test_clashes_below_idle_statements_do_not_matter(self):
        rows = [on("cap", KIND, ("field", "size", "k", ())), one("a", on("box", on("cap", KIND, SIZE, ("kind", "s"))))]
        self.assertEqual(form_of(rows), {"a": ("one", {"box": {}, "cap": {}})})


class Applies(unittest.TestCase):
    """[6.5]."""

    def test_example_of_the_interface(self):
        kinds = {"cat": ((), {"size": "number"}), "person": ((), {"likes": "animal"})}
        schema = Schema(kinds, {}, {"animal": ("cat", "person")}, "person")
        rows = (("field", "likes", "x", (("on", "cat", (("if", "f", True, (("kind", "k"),)),)),)),)
        question = Question(schema, rows, {})
        everywhere = [("cat", (("f", False),)), ("cat", (("f", True),)), ("person", (("f", False),)),
                      ("person", (("f", True),))]
        self.assertEqual(applies(question, (0, 0)), everywhere)
        self.assertEqual(applies(question, (0, 0, 0, 0)), [("cat", (("f", True),))])
        self.assertEqual(applies(question, (0, 0, 0)), everywhere[:2])
        self.assertEqual(applies(question, (0,)), everywhere[2:])

    def test_without_flags(self):
        question = question_of([one("a", KIND, on("cap", SIZE), on("box", SIZE)), on("cap", SIZE)])
        self.assertEqual(applies(question, (0,)), [("box", ())])
        self.assertEqual(applies(question, (0, 0)), [("box", ()), ("cap", ())])
        self.assertEqual(applies(question, (0, 1)), [("box", ()), ("cap", ())])
        self.assertEqual(applies(question, (0, 1, 0)), [("cap", ())])
        self.assertEqual(applies(question, (0, 2, 0)), [("box", ())])
        self.assertEqual(applies(question, (1,)), [("box", ())])
        self.assertEqual(applies(question, (1, 0)), [])

    def test_all_flags_of_the_question_are_written(self):
        question = question_of([asked_if("g", False, KIND), asked_if("e", True)], {"p": ("box", (asked_if("f", True),))})
        expected = []
        for first in (False, True):
            for second in (False, True):
                expected.append(("box", (("e", first), ("f", second), ("g", False))))
        self.assertEqual(applies(question, (0, 0)), expected)
        self.assertEqual(len(applies(question, (1,))), 8)
        self.assertEqual(applies(question, (1,)), sorted(applies(question, (1,))))
        self.assertEqual(applies(question, ("p", 0)), [])

    def test_a_part_is_asked_at_several_bases(self):
        parts = {"p": ("thing", (on("box", KIND), asked_if("f", True, KIND)))}
        question = question_of([asked_if("f", True, use("p")), one("b", asked_if("f", False, use("p")))], parts)
        off, yes = (("f", False),), (("f", True),)
        self.assertEqual(applies(question, ("p", 0)), [("box", off), ("box", yes), ("cap", off)])
        self.assertEqual(applies(question, ("p", 0, 0)), [("box", off), ("box", yes)])
        self.assertEqual(applies(question, ("p", 1, 0)), [("box", yes)])
        self.assertEqual(applies(question, (1, 0, 0)), [("box", off), ("cap", off)])

    def test_a_part_of_another_base_is_not_asked(self):
        parts = {"p": ("cap", (KIND, ("field", "of", "o", (SIZE,))))}
        question = question_of([use("p"), near("a", use("p"))], parts)
        self.assertEqual(applies(question, (0,)), [("box", ())])
        self.assertEqual(applies(question, ("p", 0)), [])
        self.assertEqual(applies(question, ("p", 1, 0)), [])
        question = question_of([use("p"), one("a", use("p"))], parts)
        self.assertEqual(applies(question, ("p", 0)), [("cap", ())])
        self.assertEqual(applies(question, ("p", 1, 0)), [("box", ())])

    def test_a_part_of_a_part(self):
        parts = {"p": ("thing", (use("q"),)), "q": ("cap", (KIND,)), "r": ("box", (use("q"),))}
        question = question_of([one("a", use("p"))], parts)
        self.assertEqual(applies(question, ("p", 0)), [("box", ()), ("cap", ())])
        self.assertEqual(applies(question, ("q", 0)), [("cap", ())])
        self.assertEqual(applies(question, ("r", 0)), [])

    def test_unlike_flags_inside_each_other(self):
        question = question_of([asked_if("f", True, asked_if("f", False, KIND))])
        self.assertEqual(applies(question, (0, 0)), [("box", (("f", True),))])
        self.assertEqual(applies(question, (0, 0, 0)), [])

    def test_fields_over_faces(self):
        rows = (("field", "pets", "p", (KIND, on("dog", ("field", "chases", "c", (KIND,))), on("person", KIND))),)
        question = question_of(rows, schema=PETS)
        self.assertEqual(applies(question, (0, 0)), [("cat", ()), ("dog", ())])
        self.assertEqual(applies(question, (0, 1, 0)), [("dog", ())])
        self.assertEqual(applies(question, (0, 1, 0, 0)), [("cat", ())])
        self.assertEqual(applies(question, (0, 2, 0)), [])

    def test_fields_of_leaves(self):
        question = question_of([one("a", on("cap", SIZE))])
        self.assertEqual(applies(question, (0, 0, 0)), [("cap", ())])

    def test_clashes_do_not_matter(self):
        question = question_of([KIND, near("k", KIND, on("box", one("k", KIND)))])
        self.assertEqual(applies(question, (1, 0)), [("box", ())])
        self.assertEqual(applies(question, (1, 1, 0, 0)), [("box", ()), ("cap", ())])

    def test_no_place(self):
        question = question_of([asked_if("f", True, KIND)], {"p": ("box", (KIND,)), "e": ("box", ())})
        wrong = [(1,), (0, 1), (0, 0, 0), (False,), (0, False), ("p",), ("p", 1), ("e", 0), ("p", False), (-1,), (), 0]
        for place in [*wrong, *[value for value in odd_values() if value != (0,)]]:
            self.assertIs(error_of(NoPlace, applies, question, place).place, place)

    def test_lists_are_new(self):
        question = question_of([KIND])
        applies(question, (0,)).append("more")
        self.assertEqual(applies(question, (0,)), [("box", ())])
        self.assertIs(type(applies(question, (0,))), list)


class Pruned(unittest.TestCase):
    """[6.6]."""

    def pruned_to(self, question, rows, parts=None):
        before = question_of(question.rows, question.parts(), question.schema)
        given = pruned(question)
        self.assertEqual(given.rows, tuple(rows))
        self.assertEqual(given.parts(), {} if parts is None else parts)
        self.assertTrue(given == question_of(rows, parts, question.schema))
        self.assertTrue(question == before)

    def test_example_of_the_interface(self):
        schema = Schema({"box": ((), {"near": "cap"}), "cap": ((), {"size": "number"})}, {}, {}, "box")
        rows = (("on", "cap", (("field", "size", "s", ()),)), ("if", "f", True, (("kind", "k"),)))
        question = Question(schema, rows, {})
        self.assertEqual(pruned(question).rows, (("if", "f", True, (("kind", "k"),)),))
        expected = (("on", "cap", (("field", "size", "s", ()),)), ("on", "box", (("kind", "k"),)))
        self.assertEqual(fixed(question, {"f": True}).rows, expected)
        self.assertEqual(fixed(question, {"f": False}).rows, (("on", "cap", (("field", "size", "s", ()),)),))

    def test_nothing_to_prune(self):
        rows = [KIND, KIND, near("a"), one("b", on("box", SIZE)), asked_if("f", False, use("p"))]
        self.pruned_to(question_of(rows, {"p": ("box", (SIZE,))}), rows, {"p": ("box", (SIZE,))})
        self.pruned_to(question_of([]), [])

    def test_empty_statements(self):
        rows = [on("box"), asked_if("f", True), near("a"), KIND, on("box", on("box"), asked_if("f", False, on("box")))]
        self.pruned_to(question_of(rows), [near("a"), KIND])

    def test_empty_statements_in_fields(self):
        rows = [near("a", on("box"), near("b", asked_if("f", True, on("thing"))))]
        self.pruned_to(question_of(rows), [near("a", near("b"))])

    def test_idle_statements_at_any_depth(self):
        rows = [near("a", on("cap", SIZE), KIND, on("box", SIZE, on("cap", KIND), near("b", on("cap", KIND), SIZE)))]
        self.pruned_to(question_of(rows), [near("a", KIND, on("box", SIZE, near("b", SIZE)))])

    def test_fields_below_idle_statements(self):
        rows = [on("cap", ("field", "of", "o", (KIND,))), on("thing", on("cap", KIND), KIND)]
        self.pruned_to(question_of(rows), [on("thing", KIND)])

    def test_unlike_flags(self):
        rows = [asked_if("f", True, asked_if("f", False, KIND)), asked_if("f", True, asked_if("f", True, KIND)),
                asked_if("g", True, SIZE, asked_if("f", False, asked_if("g", False, near("a"))))]
        expected = [asked_if("f", True, asked_if("f", True, KIND)), asked_if("g", True, SIZE)]
        self.pruned_to(question_of(rows), expected)

    def test_empty_parts(self):
        parts = {"p": ("box", ()), "q": ("box", (on("box"), use("p"))), "r": ("box", (use("q"), KIND, use("p")))}
        rows = [use("p"), use("q"), use("r"), near("a", use("p"))]
        self.pruned_to(question_of(rows, parts), [use("r"), near("a")], {"r": ("box", (KIND,))})

    def test_parts_that_become_empty(self):
        parts = {"p": ("thing", (on("box", SIZE),)), "q": ("cap", (KIND,)), "r": ("box", (near("n", use("q")),))}
        rows = [asked_if("f", True, use("q")), use("r")]
        self.pruned_to(question_of(rows, parts), [use("r")], {"r": ("box", (near("n"),))})

    def test_parts_that_nobody_asks(self):
        parts = {"p": ("box", (KIND,)), "q": ("box", (use("p"),))}
        self.pruned_to(question_of([KIND], parts), [KIND])
        self.pruned_to(question_of([KIND, use("p")], parts), [KIND, use("p")], {"p": ("box", (KIND,))})

    def test_a_part_at_several_bases(self):
        parts = {"p": ("thing", (on("box", SIZE), on("cap", KIND)))}
        self.pruned_to(question_of([use("p")], parts), [use("p")], {"p": ("thing", (on("box", SIZE),))})
        self.pruned_to(question_of([use("p"), one("a", use("p"))], parts), [use("p"), one("a", use("p"))], parts)

    def test_a_part_that_gives_nothing_here_stays_if_it_is_asked_elsewhere(self):
        parts = {"p": ("cap", (SIZE,))}
        rows = [use("p"), on("box", use("p")), one("a", use("p"))]
        self.pruned_to(question_of(rows, parts), rows, parts)
        self.pruned_to(question_of(rows[:2], parts), [])

    def test_an_idle_use_of_a_part_goes(self):
        parts = {"p": ("cap", (SIZE,))}
        rows = [on("cap", use("p")), one("a", use("p"))]
        self.pruned_to(question_of(rows, parts), [one("a", use("p"))], parts)

    def test_flags_may_go(self):
        question = question_of([KIND, on("cap", asked_if("f", True, KIND))])
        self.assertEqual(pruned(question).flags(), [])
        self.assertEqual(plain(pruned(question), {}), plain(question, {"f": True}))

    def test_clashes_stay(self):
        rows = [KIND, near("k", on("cap", KIND))]
        self.pruned_to(question_of(rows), [KIND, near("k")])

    def test_order_stays(self):
        rows = [SIZE, on("cap"), KIND, on("box", near("b"), on("cap"), near("a")), near("c")]
        self.pruned_to(question_of(rows), [SIZE, KIND, on("box", near("b"), near("a")), near("c")])


class Fixed(unittest.TestCase):
    """[6.7]."""

    def test_bases_of_the_replaced_statements(self):
        name = ("field", "name", "n", ())
        rows = (
            asked_if("f", True, name), ("field", "likes", "a", (asked_if("f", True, KIND),)),
            ("field", "pets", "b", (asked_if("f", True, asked_if("f", True, name)), on("dog", asked_if("f", True, name)))),
        )
        expected = (
            on("person", name), ("field", "likes", "a", (on("any", KIND),)),
            ("field", "pets", "b", (on("pet", on("pet", name)), on("dog", on("dog", name)))),
        )
        question = question_of(rows, schema=PETS)
        self.assertEqual(fixed(question, {"f": True}).rows, expected)
        none = (("field", "likes", "a", ()), ("field", "pets", "b", (on("dog"),)))
        self.assertEqual(fixed(question, {"f": False}).rows, none)

    def test_parts(self):
        parts = {"p": ("thing", (asked_if("f", True, KIND, asked_if("g", False, use("q"))), on("cap"))),
                 "q": ("cap", (asked_if("g", True, SIZE), SIZE)), "e": ("box", ())}
        question = question_of([use("q"), KIND], parts)
        both = fixed(question, {"f": True, "g": False})
        self.assertEqual(both.rows, (use("q"), KIND))
        expected = {"p": ("thing", (on("thing", KIND, on("thing", use("q"))), on("cap"))), "q": ("cap", (SIZE,)),
                    "e": ("box", ())}
        self.assertEqual(both.parts(), expected)
        none = fixed(question, {"f": False, "g": True})
        self.assertEqual(none.parts(), {"p": ("thing", (on("cap"),)), "q": ("cap", (on("cap", SIZE), SIZE)), "e": ("box", ())})

    def test_the_question_stays(self):
        rows, parts = [asked_if("f", True, KIND), use("p")], {"p": ("box", (asked_if("f", False, SIZE),))}
        question = question_of(rows, parts)
        given = fixed(question, {"f": True})
        self.assertEqual(given.parts(), {"p": ("box", ())})
        self.assertTrue(question == question_of(rows, parts))
        self.assertTrue(given.schema == question.schema)
        self.assertEqual(given.flags(), [])

    def test_empty_statements_stay(self):
        rows = [asked_if("f", False), asked_if("f", True), on("box"), on("cap", KIND)]
        self.assertEqual(fixed(question_of(rows), {"f": False}).rows, (on("box"), on("box"), on("cap", KIND)))

    def test_everything_inside_goes(self):
        rows = [asked_if("f", True, asked_if("g", True, KIND), SIZE), KIND]
        self.assertEqual(fixed(question_of(rows), {"f": False, "g": True}).rows, (KIND,))
        self.assertEqual(fixed(question_of(rows), {"f": True, "g": False}).rows, (on("box", SIZE), KIND))

    def test_without_flags_nothing_changes(self):
        rows, parts = [KIND, one("a", on("cap", SIZE), use("p"))], {"p": ("thing", (KIND,))}
        self.assertTrue(fixed(question_of(rows, parts), {}) == question_of(rows, parts))

    def test_plain_form_stays(self):
        rows = [asked_if("f", True, near("a", KIND)), asked_if("g", False, near("a", asked_if("f", False, SIZE)), use("p"))]
        question = question_of(rows, {"p": ("thing", (asked_if("f", True, ("kind", "x")),))})
        for first in (True, False):
            for second in (True, False):
                flags = {"f": first, "g": second}
                self.assertEqual(plain(fixed(question, flags), {}), plain(question, flags))


if __name__ == "__main__":
    unittest.main()
