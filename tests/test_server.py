"""Points [2], [3] and [13.1] to [13.6], and the interface of nestedwishes/server.py."""

import copy
import unittest

from nestedwishes.answers import Store, answer
from nestedwishes.errors import BadFlags, BadName, BadStore, Clash, NoField, NoThing, NoWatch, UnlikeSchemas
from nestedwishes.schemas import Schema
from nestedwishes.server import Server, tried
from tests.helpers import BAD_NAMES, asked, asked_if, box_schema, error_of, field, odd_values, on, pet_schema

FAIL = ("fail",)
BOX = box_schema()
KIND = ("kind", "k")
SIZE = field("size", "s")
SIZES = asked(BOX, SIZE)


def box_things():
    return {
        "b": ("box", {"size": 1, "near": "b", "lid": "c", "one": "c"}),
        "c": ("cap", {"size": 2, "of": "b"}),
    }


def box_store():
    return Store(BOX, box_things(), "b")


def new_box(**values):
    return ("box", {"size": 5, "near": None, "lid": None, "one": None, **values})


def pet_server():
    things = {
        "ann": ("person", {"name": "Ann", "pets": ["rex", "tom"], "likes": "rex"}),
        "rex": ("dog", {"name": "Rex", "chases": ["tom", None]}),
        "tom": ("cat", {"name": "Tom"}),
    }
    return Server(Store(pet_schema(), things, "ann"))


def thing_and_field(call, *arguments):
    error = error_of(BadStore, call, *arguments)
    return error.thing, error.field


def put(server, thing, name, value):
    server[thing, name] = value


def add(server, things):
    server += things
    return server


class Left(Exception):
    """Leaves a block."""


class Values(unittest.TestCase):
    """[13.1] and [13.2]."""

    def test_example_of_the_interface(self):
        schema = Schema({"box": ((), {"size": "number"})}, {}, {}, "box")
        server = Server(Store(schema, {"b": ("box", {"size": 1})}, "b"))
        question = asked(schema, SIZE)
        self.assertIsNone(server.watch("w", question, {}))
        server["b", "size"] = 2
        given = [tried(server, [("b", "size", 5)], question, {}), server["b", "size"], server.changed(), server.changed()]
        self.assertEqual(given, [({"s": 5}, []), 2, ["w"], []])

    def test_a_new_server(self):
        store = box_store()
        server = Server(store)
        self.assertTrue(server.snapshot() == store)
        self.assertIs(type(server.snapshot()), Store)
        self.assertEqual(len(server), 2)
        self.assertEqual([server["b", "size"], server["b", "near"], server["c", "of"]], [1, "b", "b"])
        self.assertEqual(server.watched(), [])
        self.assertEqual(server.changed(), [])
        self.assertEqual(server.ask(SIZES, {}), ({"s": 1}, []))

    def test_two_servers_of_one_store(self):
        store = box_store()
        one, other = Server(store), Server(store)
        one["b", "size"] = 7
        one.drop("c", "size")
        one += {"d": new_box()}
        one.watch("w", SIZES, {})
        self.assertTrue(store == box_store())
        self.assertTrue(other.snapshot() == box_store())
        self.assertEqual([other["b", "size"], other["c", "size"], len(other), "d" in other, other.watched()], [1, 2, 2, False, []])
        other["b", "size"] = 8
        self.assertEqual([one["b", "size"], other["b", "size"], store.value("b", "size")], [7, 8, 1])

    def test_a_server_of_a_snapshot(self):
        one = Server(box_store())
        one["b", "size"] = 7
        snapshot = one.snapshot()
        other = Server(snapshot)
        one["b", "size"] = 8
        other["b", "size"] = 9
        self.assertEqual([one["b", "size"], other["b", "size"], snapshot.value("b", "size")], [8, 9, 7])
        self.assertEqual(snapshot.first, "b")

    def test_each_form_of_a_value(self):
        forms = {
            "number": ([0, -1, 10 ** 30 - 1, 1 - 10 ** 30, None, FAIL], [True, 10 ** 30, "1", "", [1], b"1", "c"]),
            "text": (["", "a b~", "twelve signs", "b", None, FAIL], ["thirteen sign", "a%", "\n", 1, True, ["a"], b"a"]),
            "box": (["b", "e", None, FAIL], ["c", "x", "", "box", 1, ["b"], ("b",)]),
            "thing": (["b", "c", None, FAIL], ["x", "thing", ["b"], {"b": 1}]),
            ("sure", "box"): (["b", None, FAIL], ["c", ["b"]]),
            ("list", "number"): ([[], [1] * 6, [None, FAIL, 2], None, FAIL], [[1] * 7, [True], 1, (1,), ["a"], [[1]]]),
            ("sure", ("list", ("sure", "thing"))): ([[], ["b", "c", None], None, FAIL], [["b", "x"], "b", [["b"]], ["b"] * 7]),
            ("list", ("list", "text")): ([[["a"], []], [None, [FAIL]]], [["a"], [[1]], [[["a"]]]]),
        }
        for shape, (right, wrong) in forms.items():
            kinds = {"box": ((), {"f": shape}), "cap": ((), {"n": "number"})}
            schema = Schema(kinds, {}, {"thing": ("box", "cap")}, "box")
            server = Server(Store(schema, {"b": ("box", {"f": None}), "e": ("box", {"f": FAIL}), "c": ("cap", {"n": 1})}, "b"))
            for value in right:
                server["b", "f"] = value
                self.assertEqual(server["b", "f"], value)
                self.assertEqual(server.snapshot().value("b", "f"), value)
                self.assertEqual(server["e", "f"], FAIL)
            for value in wrong:
                self.assertEqual(thing_and_field(put, server, "b", "f", value), ("b", "f"))
                self.assertEqual(server["b", "f"], right[-1])

    def test_values_of_every_kind(self):
        server = Server(box_store())
        for value in odd_values():
            for thing, name in [("b", "near"), ("c", "of")]:
                if value is not None:
                    self.assertEqual(thing_and_field(put, server, thing, name, value), (thing, name))
        self.assertTrue(server.snapshot() == box_store())

    def test_drop(self):
        server = pet_server()
        self.assertIsNone(server.drop("ann", "name"))
        self.assertIsNone(server["ann", "name"])
        server.drop("rex", "chases")
        server.drop("rex", "chases")
        self.assertIsNone(server["rex", "chases"])
        self.assertEqual(server.ask(asked(pet_schema(), field("name", "n")), {}), (None, [("n",)]))

    def test_no_thing(self):
        server = Server(box_store())
        for thing in odd_values():
            for name in ("size", "zz", None, []):
                self.assertEqual(error_of(NoThing, lambda: server[thing, name]).thing, thing)
                self.assertEqual(error_of(NoThing, put, server, thing, name, True).thing, thing)
                self.assertEqual(error_of(NoThing, server.drop, thing, name).thing, thing)
        error_of(NoThing, lambda: server["box", "size"])
        self.assertTrue(server.snapshot() == box_store())

    def test_no_field(self):
        server = Server(box_store())
        for name in [*odd_values(), "of", "box"]:
            for call in (lambda: server["b", name], lambda: put(server, "b", name, True), lambda: server.drop("b", name)):
                error = error_of(NoField, call)
                self.assertEqual((error.base, error.field), ("box", name))
        error = error_of(NoField, put, server, "c", "near", {})
        self.assertEqual((error.base, error.field), ("cap", "near"))
        self.assertTrue(server.snapshot() == box_store())

    def test_values_are_copied(self):
        kinds = {"box": ((), {"f": ("list", ("list", "number"))})}
        schema = Schema(kinds, {}, {}, "box")
        value = [[1], [2]]
        server = Server(Store(schema, {"b": ("box", {"f": value})}, "b"))
        value[0].append(3)
        self.assertEqual(server["b", "f"], [[1], [2]])
        other = [[4]]
        server["b", "f"] = other
        other[0].append(5)
        other.append([])
        self.assertEqual(server["b", "f"], [[4]])
        given = server["b", "f"]
        given[0].clear()
        given.append([6])
        self.assertEqual(server["b", "f"], [[4]])
        data, faults = server.ask(asked(schema, field("f", "a")), {})
        data["a"][0].append(7)
        faults.append(1)
        self.assertEqual(server.ask(asked(schema, field("f", "a")), {}), ({"a": [[4]]}, []))

    def test_things_in_the_server(self):
        server = Server(box_store())
        self.assertIs("b" in server, True)
        self.assertIs("c" in server, True)
        for thing in [*odd_values(), "d", "box", "size", ("b", "size")]:
            self.assertIs(thing in server, False)

    def test_ask(self):
        server = Server(box_store())
        rows = [asked_if("f", True, field("one", "o", on("cap", KIND, field("size", "k")), on("box", KIND))), SIZE]
        question = asked(BOX, *rows)
        self.assertEqual(server.ask(question, {"f": False}), ({"s": 1}, []))
        error_of(UnlikeSchemas, server.ask, asked(pet_schema()), None)
        for flags in odd_values():
            error_of(BadFlags, server.ask, question, flags)
        self.assertEqual(error_of(Clash, server.ask, question, {"f": True}).way, ("o", "k"))
        server["b", "one"] = "b"
        self.assertEqual(server.ask(question, {"f": True}), ({"o": {"k": "box"}, "s": 1}, []))

    def test_a_server_is_not_iterated(self):
        with self.assertRaises(TypeError):
            list(Server(box_store()))


class Adding(unittest.TestCase):
    """[13.3]."""

    def test_nothing(self):
        server = Server(box_store())
        server += {}
        self.assertTrue(server.snapshot() == box_store())

    def test_new_things(self):
        server = Server(box_store())
        before = server
        things = {"d": new_box(near="e", lid="c"), "e": new_box(near="d", one="f"), "f": ("cap", {"size": FAIL, "of": "b"})}
        kept = copy.deepcopy(things)
        server += things
        self.assertIs(server, before)
        self.assertEqual(things, kept)
        self.assertEqual(len(server), 5)
        self.assertTrue(server.snapshot() == Store(BOX, {**box_things(), **things}, "b"))
        server["b", "near"] = "e"
        self.assertEqual(server.ask(asked(BOX, field("near", "a", field("near", "c", field("lid", "d", KIND)))), {})[0],
                         {"a": {"c": {"d": {"k": "cap"}}}})
        things["d"][1]["size"] = 6
        things["g"] = new_box()
        self.assertEqual([server["d", "size"], "g" in server], [5, False])

    def test_lists_in_new_things_are_copied(self):
        schema = Schema({"box": ((), {"f": ("list", ("list", "box"))})}, {}, {}, "box")
        server = Server(Store(schema, {"b": ("box", {"f": []})}, "b"))
        things = {"c": ("box", {"f": [["b", "c"]]})}
        server += things
        things["c"][1]["f"][0].append(None)
        self.assertEqual(server["c", "f"], [["b", "c"]])

    def test_through_another_name(self):
        server = Server(box_store())
        other = server
        other += {"d": new_box()}
        self.assertIs(other, server)
        self.assertIn("d", server)

    def test_the_sign_itself(self):
        server = Server(box_store())
        self.assertIs(add(server, {"d": new_box()}), server)
        self.assertIs(server.__iadd__({"e": new_box()}), server)

    def assert_refused(self, pair, things, server=None):
        server = server or Server(box_store())
        before = server.snapshot()
        self.assertEqual(thing_and_field(add, server, things), pair)
        self.assertTrue(server.snapshot() == before)

    def test_what_is_no_dict(self):
        for things in odd_values():
            if type(things) is not dict:
                self.assert_refused(("", ""), things)
            elif things:
                # None of them has a right thing.
                named = all(isinstance(name, str) for name in things)
                self.assert_refused((min(things), "") if named else ("", ""), things)

    def test_keys_that_are_no_names(self):
        for name in [*BAD_NAMES, None, 0, True, ("d",), b"d"]:
            self.assert_refused(("", ""), {name: new_box()})
            self.assert_refused(("", ""), {"b": new_box(), name: new_box()})

    def test_twelve_things(self):
        ten = {name: new_box() for name in "defghijklm"}
        server = Server(box_store())
        server += ten
        self.assertEqual(len(server), 12)
        self.assert_refused(("", ""), {"n": new_box()}, server)
        server += {}
        self.assert_refused(("b", ""), {"b": new_box()}, server)
        self.assert_refused(("", ""), {"n": new_box(), "b": new_box()}, server)
        self.assert_refused(("", ""), {**ten, "n": new_box()})
        self.assert_refused(("d", ""), ten, server)
        self.assert_refused(("b", ""), {**box_things(), **ten}, server)
        self.assert_refused(("", ""), {**ten, **{name: None for name in "opqrst"}})

    def test_things_that_the_server_has(self):
        self.assert_refused(("b", ""), {"b": new_box()})
        self.assert_refused(("b", ""), {"c": new_box(), "b": new_box()})
        self.assert_refused(("c", ""), {"c": None, "a": None})
        self.assert_refused(("b", ""), box_things())

    def test_wrong_things(self):
        wrong = [None, (), ("box",), ("box", {}), ["box", new_box()[1]], ("thing", new_box()[1]), ("zz", {}), ("cap", new_box()[1]),
                 ("cap", {"size": 1}), ("cap", {"size": 1, "of": None, "near": None}), ("cap", [("size", 1), ("of", None)]),
                 ("cap", {"size": 1, "of": None}, 1), (["cap"], {"size": 1, "of": None})]
        for thing in [*wrong, *odd_values()]:
            self.assert_refused(("d", ""), {"d": thing})
            self.assert_refused(("d", ""), {"e": thing, "d": thing, "a": new_box(size="x")})

    def test_wrong_values(self):
        self.assert_refused(("d", "size"), {"d": new_box(size=True)})
        self.assert_refused(("d", "near"), {"d": new_box(near="e")})
        self.assert_refused(("d", "near"), {"d": new_box(near="c")})
        self.assert_refused(("d", "near"), {"d": new_box(near="f"), "f": ("cap", {"size": 1, "of": "d"})})
        self.assert_refused(("d", "lid"), {"d": new_box(lid="d", size="x", one="x")})
        self.assert_refused(("d", "one"), {"e": new_box(near=1), "d": new_box(size=[], one="zz")})
        for value in odd_values():
            if value is not None:
                self.assert_refused(("d", "near"), {"d": new_box(near=value)})

    def test_two_reasons_at_once(self):
        self.assert_refused(("", ""), {"b": None, "Bad": None})
        self.assert_refused(("b", ""), {"a": None, "b": None})
        self.assert_refused(("b", ""), {"a": new_box(size="x"), "b": new_box()})
        self.assert_refused(("e", ""), {"d": new_box(size="x"), "e": None})
        self.assert_refused(("d", "size"), {"d": new_box(size="x"), "e": new_box(near="x")})


class Watching(unittest.TestCase):
    """[13.4] and [13.5]."""

    def test_names(self):
        server = Server(box_store())
        for name in ("w", "abcdefgh", "box", "size"):
            server.watch(name, SIZES, {})
        self.assertEqual(server.watched(), ["abcdefgh", "box", "size", "w"])
        server.watched().clear()
        self.assertEqual(len(server.watched()), 4)
        for name in [value for value in odd_values() if not (isinstance(value, str) and value.isascii() and value.isalpha()
                                                             and value.islower() and len(value) <= 8)] + BAD_NAMES:
            self.assertEqual(error_of(BadName, server.watch, name, asked(pet_schema()), None).name, name)
        self.assertEqual(len(server.watched()), 4)

    def test_order_of_the_errors(self):
        server = Server(box_store())
        clashing = asked(BOX, asked_if("f", True, field("one", "o", on("box", KIND, field("size", "k")))))
        error_of(BadName, server.watch, "W", asked(pet_schema()), None)
        error_of(UnlikeSchemas, server.watch, "w", asked(pet_schema()), None)
        for flags in [*odd_values(), {"f": 1}, {"f": True, "g": True}]:
            error_of(BadFlags, server.watch, "w", clashing, flags)
        # The answer does not come to the clash, but the plain form does.
        self.assertEqual(server.ask(clashing, {"f": True}), ({"o": {}}, []))
        self.assertEqual(error_of(Clash, server.watch, "w", clashing, {"f": True}).way, ("o", "k"))
        self.assertEqual(server.watched(), [])
        server.watch("w", clashing, {"f": False})
        self.assertEqual(server.watched(), ["w"])

    def test_clashes_as_plain_finds_them(self):
        server = Server(box_store())
        rows = [field("near", "b", KIND, field("size", "k")), field("near", "a", field("near", "z", KIND, field("size", "k")))]
        self.assertEqual(error_of(Clash, server.watch, "w", asked(BOX, *rows), {}).way, ("a", "z", "k"))

    def test_a_refused_question_replaces_nothing(self):
        server = Server(box_store())
        server.watch("w", SIZES, {})
        error_of(BadFlags, server.watch, "w", SIZES, None)
        error_of(Clash, server.watch, "w", asked(BOX, KIND, field("size", "k")), {})
        server["b", "size"] = 2
        self.assertEqual(server.changed(), ["w"])

    def test_the_same_name_twice(self):
        server = Server(box_store())
        server.watch("w", SIZES, {})
        server.watch("w", asked(BOX, field("near", "n", KIND)), {})
        self.assertEqual(server.watched(), ["w"])
        server["b", "size"] = 2
        self.assertEqual(server.changed(), [])
        server.drop("b", "near")
        self.assertEqual(server.changed(), ["w"])

    def test_watching_again_keeps_the_answer_of_now(self):
        server = Server(box_store())
        server.watch("w", SIZES, {})
        server["b", "size"] = 2
        server.watch("w", SIZES, {})
        self.assertEqual(server.changed(), [])
        server["b", "size"] = 1
        self.assertEqual(server.changed(), ["w"])

    def test_unwatch(self):
        server = Server(box_store())
        server.watch("w", SIZES, {})
        server.watch("x", SIZES, {})
        self.assertIsNone(server.unwatch("w"))
        self.assertEqual(server.watched(), ["x"])
        server["b", "size"] = 2
        self.assertEqual(server.changed(), ["x"])
        self.assertEqual(error_of(NoWatch, server.unwatch, "w").name, "w")
        for name in odd_values():
            self.assertEqual(error_of(NoWatch, server.unwatch, name).name, name)
        self.assertEqual(server.watched(), ["x"])

    def test_changed(self):
        server = Server(box_store())
        for name, rows in [("z", [SIZE]), ("a", [SIZE, KIND]), ("m", [field("lid", "l", SIZE)]), ("n", [KIND])]:
            server.watch(name, asked(BOX, *rows), {})
        self.assertEqual(server.changed(), [])
        server["b", "size"] = 2
        self.assertEqual(server.changed(), ["a", "z"])
        self.assertEqual(server.changed(), [])
        server["b", "size"] = 3
        server["c", "size"] = 3
        self.assertEqual(server.changed(), ["a", "m", "z"])
        server["c", "size"] = 4
        server.changed().append("more")
        self.assertEqual(server.changed(), [])

    def test_changes_that_were_taken_back(self):
        server = Server(box_store())
        server.watch("w", SIZES, {})
        server["b", "size"] = 2
        server["b", "size"] = 1
        self.assertEqual(server.changed(), [])
        server["b", "size"] = 2
        self.assertEqual(server.changed(), ["w"])
        server["b", "size"] = 1
        self.assertEqual(server.changed(), ["w"])

    def test_changes_that_the_answer_does_not_come_to(self):
        server = Server(box_store())
        server.watch("w", asked(BOX, field("lid", "l", SIZE)), {})
        server["b", "size"] = 2
        server["b", "near"] = None
        server["c", "of"] = None
        server += {"d": new_box()}
        self.assertEqual(server.changed(), [])
        server += {"e": ("cap", {"size": 2, "of": None})}
        server["b", "lid"] = "e"
        self.assertEqual(server.changed(), [])
        server["c", "size"] = 3
        self.assertEqual(server.changed(), [])
        server["e", "size"] = 3
        self.assertEqual(server.changed(), ["w"])

    def test_data_alone_and_faults_alone(self):
        server = Server(box_store())
        server.watch("w", SIZES, {})
        server["b", "size"] = 2
        self.assertEqual(server.changed(), ["w"])
        server["b", "size"] = None
        self.assertEqual(server.changed(), ["w"])
        server["b", "size"] = FAIL
        self.assertEqual(server.ask(SIZES, {}), ({"s": None}, [("s",)]))
        self.assertEqual(server.changed(), ["w"])
        server["b", "size"] = None
        self.assertEqual(server.changed(), ["w"])

    def test_faults_inside_what_is_wiped(self):
        server = pet_server()
        rows = [field("name", "n"), field("pets", "p", field("name", "m"))]
        server.watch("w", asked(pet_schema(), *rows), {})
        server["ann", "name"] = None
        self.assertEqual(server.changed(), ["w"])
        server["tom", "name"] = FAIL
        self.assertEqual(server.ask(asked(pet_schema(), *rows), {})[0], None)
        self.assertEqual(server.changed(), ["w"])
        server["tom", "name"] = "Tim"
        self.assertEqual(server.changed(), ["w"])
        server["rex", "name"] = "Rix"
        self.assertEqual(server.changed(), [])

    def test_flags(self):
        server = Server(box_store())
        question = asked(BOX, asked_if("f", True, SIZE), asked_if("f", False, field("lid", "l")))
        flags = {"f": True}
        server.watch("t", question, flags)
        flags["f"] = False
        flags["g"] = True
        server.watch("f", question, {"f": False})
        server["b", "size"] = 2
        self.assertEqual(server.changed(), ["t"])
        server["b", "lid"] = None
        self.assertEqual(server.changed(), ["f"])

    def test_answers_that_are_changed_by_the_caller(self):
        schema = Schema({"box": ((), {"f": ("list", "number")})}, {}, {}, "box")
        server = Server(Store(schema, {"b": ("box", {"f": [1]})}, "b"))
        question = asked(schema, field("f", "a"))
        server.watch("w", question, {})
        server.ask(question, {})[0]["a"].append(2)
        self.assertEqual(server.changed(), [])


class Blocks(unittest.TestCase):
    """[13.6]: `with`."""

    def state(self, server):
        return server.snapshot(), server.watched()

    def assert_state(self, server, state):
        self.assertTrue(server.snapshot() == state[0])
        self.assertEqual(server.watched(), state[1])

    def change_everything(self, server):
        server["b", "size"] = 10
        server.drop("c", "of")
        server += {"d": new_box(near="b")}
        server["b", "near"] = "d"
        server.watch("new", SIZES, {})
        server.watch("old", asked(BOX, KIND), {})
        server.unwatch("gone")
        server.changed()

    def watching(self):
        server = Server(box_store())
        server.watch("old", SIZES, {})
        server.watch("gone", SIZES, {})
        return server

    def test_a_block_that_ends_well(self):
        server = self.watching()
        state = self.state(server)
        with server as inner:
            self.assertIs(inner, server)
            self.change_everything(inner)
            self.assertEqual([server["b", "size"], len(server), server.watched()], [10, 3, ["new", "old"]])
        self.assert_state(server, state)
        self.assertEqual([server["b", "size"], server["b", "near"], server["c", "of"], len(server)], [1, "b", "b", 2])
        self.assertEqual(server.changed(), [])
        server["b", "size"] = 2
        self.assertEqual(server.changed(), ["gone", "old"])

    def test_errors_that_leave_the_block(self):
        for error in (Left("x"), KeyError("x"), BadStore("a", "b"), KeyboardInterrupt()):
            server = self.watching()
            state = self.state(server)
            with self.assertRaises(type(error)) as raised:
                with server:
                    self.change_everything(server)
                    raise error
            self.assertIs(raised.exception, error)
            self.assert_state(server, state)
            server["b", "size"] = 2
            self.assertEqual(server.changed(), ["gone", "old"])

    def test_a_block_that_is_left_by_return(self):
        server = self.watching()

        def inside():
            with server:
                self.change_everything(server)
                return server["b", "size"]

        self.assertEqual(inside(), 10)
        self.assertEqual(server["b", "size"], 1)

    def test_kept_answers_come_back(self):
        server = self.watching()
        server["b", "size"] = 2
        with server:
            self.assertEqual(server.changed(), ["gone", "old"])
            self.assertEqual(server.changed(), [])
        self.assertEqual(server.changed(), ["gone", "old"])
        with server:
            server["b", "size"] = 3
            self.assertEqual(server.changed(), ["gone", "old"])
            server.watch("old", SIZES, {})
        self.assertEqual(server.changed(), [])

    def test_nested_blocks(self):
        server = self.watching()
        with server as one:
            server["b", "size"] = 2
            with server as two:
                server["b", "size"] = 3
                server.watch("deep", SIZES, {})
                with server as three:
                    self.assertIs(one, two)
                    self.assertIs(two, three)
                    self.change_everything(server)
                    self.assertEqual(server["b", "size"], 10)
                self.assertEqual(server["b", "size"], 3)
                self.assertEqual(server.watched(), ["deep", "gone", "old"])
                self.assertEqual(server.changed(), ["gone", "old"])
            self.assertEqual(server["b", "size"], 2)
            self.assertEqual(server.watched(), ["gone", "old"])
            self.assertEqual(server.changed(), ["gone", "old"])
        self.assertEqual(server["b", "size"], 1)
        self.assertEqual(server.changed(), [])

    def test_nested_blocks_and_errors(self):
        server = self.watching()
        state = self.state(server)
        with server:
            server["b", "size"] = 2
            with self.assertRaises(Left):
                with server:
                    self.change_everything(server)
                    with server:
                        server.drop("d", "size")
                        raise Left
            self.assertEqual([server["b", "size"], "d" in server], [2, False])
            with self.assertRaises(BadStore):
                with server:
                    server["b", "size"] = 3
                    server["b", "size"] = True
            self.assertEqual(server["b", "size"], 2)
        self.assert_state(server, state)

    def test_blocks_one_after_the_other(self):
        server = self.watching()
        for size in (5, 6):
            with server:
                self.assertEqual(server["b", "size"], size - 4)
                server["b", "size"] = 100
            self.assertEqual(server["b", "size"], size - 4)
            server["b", "size"] = size - 3
        self.assertEqual(server["b", "size"], 3)

    def test_two_servers_in_blocks(self):
        one, other = Server(box_store()), Server(box_store())
        with one, other:
            one["b", "size"] = 2
            with one:
                other["b", "size"] = 3
                one["b", "size"] = 4
            self.assertEqual([one["b", "size"], other["b", "size"]], [2, 3])
        self.assertEqual([one["b", "size"], other["b", "size"]], [1, 1])

    def test_lists_in_blocks(self):
        server = pet_server()
        with server:
            server["ann", "pets"] = ["tom"]
            server["ann", "pets"].append("rex")
            self.assertEqual(server["ann", "pets"], ["tom"])
        self.assertEqual(server["ann", "pets"], ["rex", "tom"])


class Tried(unittest.TestCase):
    """[13.6]: `tried`."""

    def assert_unchanged(self, server, before):
        self.assertTrue(server.snapshot() == before)

    def test_no_change(self):
        server = Server(box_store())
        self.assertEqual(tried(server, [], SIZES, {}), ({"s": 1}, []))
        self.assert_unchanged(server, box_store())

    def test_changes_one_after_the_other(self):
        server = Server(box_store())
        changes = [("b", "size", 2), ("b", "near", None), ("b", "size", 3), ("c", "size", FAIL), ("b", "size", 4)]
        kept = copy.deepcopy(changes)
        question = asked(BOX, SIZE, field("near", "n", KIND), field("lid", "l", SIZE))
        self.assertEqual(tried(server, changes, question, {}), ({"s": 4, "n": None, "l": {"s": None}}, [("l", "s")]))
        self.assertEqual(changes, kept)
        self.assert_unchanged(server, box_store())
        self.assertEqual(server.ask(question, {}), ({"s": 1, "n": {"k": "box"}, "l": {"s": 2}}, []))

    def test_a_change_that_is_refused_after_others(self):
        server = Server(box_store())
        server.watch("w", SIZES, {})
        good = ("b", "size", 2)
        self.assertEqual(thing_and_field(tried, server, [good, ("b", "near", "c"), ("x", "y", 1)], SIZES, {}), ("b", "near"))
        self.assertEqual(error_of(NoThing, tried, server, [good, ("x", "y", 1), ("b", "near", "c")], SIZES, {}).thing, "x")
        error = error_of(NoField, tried, server, [good, ("c", "near", "c")], SIZES, None)
        self.assertEqual((error.base, error.field), ("cap", "near"))
        self.assert_unchanged(server, box_store())
        self.assertEqual(server.changed(), [])

    def test_errors_of_the_question_come_last(self):
        server = Server(box_store())
        good, bad = ("b", "one", "b"), ("b", "size", "x")
        clashing = asked(BOX, asked_if("f", True, field("one", "o", on("box", KIND, field("size", "k")))))
        error_of(BadStore, tried, server, [good, bad], asked(pet_schema()), None)
        error_of(UnlikeSchemas, tried, server, [good], asked(pet_schema()), None)
        for flags in odd_values():
            error_of(BadStore, tried, server, [good, bad], clashing, flags)
            error_of(BadFlags, tried, server, [good], clashing, flags)
        self.assertEqual(error_of(Clash, tried, server, [good], clashing, {"f": True}).way, ("o", "k"))
        self.assertEqual(tried(server, [], clashing, {"f": True}), ({"o": {}}, []))
        self.assert_unchanged(server, box_store())

    def test_clashes_have_the_way_of_an_answer(self):
        schema = BOX.with_shape("box", "near", ("list", "box"))
        things = box_things()
        things["b"][1]["near"] = []
        server = Server(Store(schema, things, "b"))
        question = asked(schema, field("near", "n", KIND, field("size", "k")))
        self.assertEqual(tried(server, [], question, {}), ({"n": []}, []))
        self.assertEqual(error_of(Clash, tried, server, [("b", "near", [None, "b"])], question, {}).way, ("n", 1, "k"))

    def test_values_of_every_kind(self):
        server = Server(box_store())
        for value in odd_values():
            if value is not None:
                self.assertEqual(thing_and_field(tried, server, [("b", "near", value)], SIZES, {}), ("b", "near"))
            self.assertEqual(error_of(NoThing, tried, server, [(value, "size", 1)], SIZES, {}).thing, value)
            self.assertEqual(error_of(NoField, tried, server, [("b", value, 1)], SIZES, {}).field, value)
        self.assert_unchanged(server, box_store())

    def test_watched_questions_stay(self):
        server = Server(box_store())
        server.watch("w", SIZES, {})
        tried(server, [("b", "size", 2)], SIZES, {})
        self.assertEqual(server.changed(), [])
        server["b", "size"] = 2
        tried(server, [("b", "size", 1)], SIZES, {})
        self.assertEqual(server.changed(), ["w"])

    def test_within_a_block(self):
        server = Server(box_store())
        with server:
            server["b", "size"] = 2
            self.assertEqual(tried(server, [("c", "size", 9)], SIZES, {}), ({"s": 2}, []))
            self.assertEqual([server["b", "size"], server["c", "size"]], [2, 2])
        self.assert_unchanged(server, box_store())

    def test_answers_are_those_of_a_store(self):
        server = pet_server()
        rows = [field("pets", "p", KIND, field("name", "n")), field("likes", "l", on("dog", field("chases", "c", field("name", "n"))))]
        question = asked(pet_schema(), *rows)
        store = server.snapshot().with_value("ann", "pets", ["tom"]).with_value("tom", "name", FAIL)
        self.assertEqual(tried(server, [("ann", "pets", ["tom"]), ("tom", "name", FAIL)], question, {}), answer(question, store, {}))


if __name__ == "__main__":
    unittest.main()
