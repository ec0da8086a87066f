"""Points [2], [3] and [12.1] to [12.5], and the interface of nestedwishes/sizes.py."""

import itertools
import unittest

from nestedwishes.errors import BadFlags, BadNumber, Clash
from nestedwishes.schemas import Schema
from nestedwishes.sizes import Growth, final, greatest, settled, worst
from tests.helpers import asked, asked_if, box_schema, error_of, field, odd_values, on

BOX = box_schema()
KIND = ("kind", "k")
SIZE = field("size", "s")
GREAT = 10 ** 30
WRONG_NUMBERS = [True, False, -1, -10 ** 5000, None, "1", "", [], [1], (1,), {1}, {}, {1: 1}, b"\x01", [[1]], ((),)]


def kinds_named(*keys):
    return [("kind", key) for key in keys]


def leaf_schema(shape):
    return Schema({"box": ((), {"f": shape})}, {}, {}, "box")


def list_schema():
    """A root that leads to two kinds, of which one has lists."""
    kinds = {
        "top": ((), {"one": "both", "all": ("list", "both"), "deep": ("sure", ("list", ("list", "both")))}),
        "few": ((), {"n": "number", "to": "both"}),
        "many": ((), {"l": ("list", "number"), "ll": ("list", ("list", "text")), "to": ("list", "both")}),
    }
    return Schema(kinds, {}, {"both": ("few", "many"), "any": ("few", "many", "top")}, "top")


LISTS = list_schema()


class Greatest(unittest.TestCase):
    """[12.1]."""

    def assert_sizes(self, expected, question, flags=None):
        """The sizes for 0, 1, 2, 3 and very many items."""
        given = [greatest(question, flags or {}, items=items) for items in (0, 1, 2, 3, GREAT)]
        self.assertEqual(given, expected)
        self.assertTrue(all(type(size) is int for size in given))
        self.assertEqual(greatest(question, flags or {}), expected[1])

    def test_example_of_the_interface(self):
        kinds = {"box": ((), {"all": ("list", "box"), "near": "thing"}), "cap": ((), {"size": "number"})}
        schema = Schema(kinds, {}, {"thing": ("box", "cap")}, "box")
        caps = on("cap", SIZE, KIND, ("kind", "m"))
        question = asked(schema, field("near", "a", caps, on("box", field("all", "b", KIND))))
        self.assertEqual([greatest(question, {}, items=3), greatest(question, {}, items=4)], [3, 4])
        self.assertEqual(worst(question, {}, items=4), {"near": ("box", {"all": ("box", {})})})
        self.assertEqual(final(question, {}).coefficients, (0, 1))
        self.assertEqual(settled(question, {}), 3)

    def test_nothing(self):
        self.assert_sizes([0] * 5, asked(BOX))
        self.assert_sizes([0] * 5, asked(BOX, field("near", "a", field("lid", "l")), on("cap", field("size", "s"))))

    def test_kind_names(self):
        self.assert_sizes([1] * 5, asked(BOX, KIND))
        self.assert_sizes([1] * 5, asked(BOX, KIND, KIND, on("thing", KIND)))
        self.assert_sizes([3] * 5, asked(BOX, *kinds_named("k", "l", "m")))

    def test_leaves_in_lists(self):
        lists = {
            ("list",): 1, ("sure", "list"): 1, ("list", "sure"): 1, ("sure", "list", "sure"): 1, ("list", "list"): 2,
            ("list", "sure", "list"): 2, ("sure", "list", "sure", "list"): 2, ("sure", "list", "list", "list"): 3,
            ("list", "list", "list"): 3, ("list", "list", "list", "list"): 4, (): 0, ("sure",): 0,
        }
        for wrappers, many in lists.items():
            for base in ("number", "text"):
                shape = base
                for word in reversed(wrappers):
                    shape = (word, shape)
                question = asked(leaf_schema(shape), field("f", "a"))
                self.assert_sizes([items ** many for items in (0, 1, 2, 3, GREAT)], question)
                self.assertEqual(final(question, {}).coefficients, (0,) * many + (1,))
                self.assertEqual(settled(question, {}), 0)

    def test_the_power_0_of_0(self):
        self.assertEqual(greatest(asked(LISTS, field("one", "a", on("few", field("n", "n")))), {}, items=0), 1)
        self.assertEqual(greatest(asked(LISTS, field("all", "a", on("few", field("n", "n")))), {}, items=0), 0)

    def test_a_leaf_under_several_keys_counts_for_each(self):
        self.assert_sizes([3] * 5, asked(BOX, *[field("size", key) for key in "abc"]))
        question = asked(leaf_schema(("list", "text")), field("f", "a"), field("f", "b"))
        self.assert_sizes([0, 2, 4, 6, 2 * GREAT], question)

    def test_things_in_lists(self):
        self.assert_sizes([0, 1, 2, 3, GREAT], asked(LISTS, field("all", "a", KIND)))
        self.assert_sizes([0, 1, 4, 9, GREAT ** 2], asked(LISTS, field("deep", "a", KIND)))
        self.assert_sizes([0, 1, 8, 27, GREAT ** 3], asked(LISTS, field("deep", "a", on("many", field("l", "b")))))
        self.assert_sizes([0, 1, 16, 81, GREAT ** 4], asked(LISTS, field("deep", "a", on("many", field("ll", "b")))))
        self.assert_sizes([0] * 5, asked(LISTS, field("all", "a"), field("deep", "b")))

    def test_a_field_under_several_keys_has_one_thing(self):
        # Each form counts by itself, but all of them see the same thing.
        few, many = on("few", KIND, ("kind", "l")), on("many", KIND)
        self.assert_sizes([4] * 5, asked(LISTS, field("one", "a", few), field("one", "b", few)))
        self.assert_sizes([3] * 5, asked(LISTS, field("one", "a", few), field("one", "b", on("few", KIND))))
        self.assert_sizes([2] * 5, asked(LISTS, field("one", "a", few), field("one", "b", many)))
        self.assert_sizes([3] * 5, asked(LISTS, field("one", "a", few, many), field("one", "b", on("few", KIND), many)))
        self.assert_sizes([0, 2, 4, 6, 2 * GREAT], asked(LISTS, field("all", "a", few), field("all", "b", many)))
        self.assert_sizes([0, 4, 8, 12, 4 * GREAT], asked(LISTS, field("all", "a", few), field("all", "b", many, few)))

    def test_several_keys_of_a_field_and_below_them(self):
        inner = field("to", "t", KIND)
        rows = [field("one", key, on("few", inner, field("n", "n"))) for key in "abc"]
        self.assert_sizes([6] * 5, asked(LISTS, *rows))
        rows = [field("one", key, on("many", field("to", "t", KIND), field("to", "u", KIND, on("few", ("kind", "l"))))) for key in "ab"]
        self.assert_sizes([0, 6, 12, 18, 6 * GREAT], asked(LISTS, *rows))

    def test_put_together_rows_are_one_form(self):
        self.assert_sizes([1] * 5, asked(LISTS, field("one", "a", KIND), field("one", "a", KIND)))
        self.assert_sizes([2] * 5, asked(LISTS, field("one", "a", KIND), field("one", "b", KIND)))
        self.assert_sizes([2] * 5, asked(LISTS, field("one", "a", KIND), field("one", "b", ("part", "p")), field("one", "a", ("part", "p")),
                                         p=("both", KIND)))

    def test_the_greatest_member(self):
        rows = field("one", "a", on("few", *kinds_named("k", "l", "m")), on("many", KIND, field("l", "i")))
        self.assert_sizes([3, 3, 3, 4, 1 + GREAT], asked(LISTS, rows))
        rows = field("all", "a", on("few", *kinds_named("k", "l", "m")), on("many", KIND, field("l", "i")))
        self.assert_sizes([0, 3, 6, 12, GREAT + GREAT ** 2], asked(LISTS, rows))

    def test_members_are_chosen_for_each_field(self):
        few, many = on("few", *kinds_named("k", "l", "m")), on("many", field("l", "i"))
        question = asked(LISTS, field("one", "a", few, many), field("all", "b", few))
        self.assert_sizes([3, 6, 9, 12, 4 * GREAT], question)

    def test_under_flags(self):
        question = asked(LISTS, asked_if("f", True, field("one", "a", KIND)), asked_if("g", False, field("all", "b", KIND)))
        self.assert_sizes([1, 1, 1, 1, 1], question, {"f": True, "g": True})
        self.assert_sizes([0, 1, 2, 3, GREAT], question, {"f": False, "g": False})
        self.assert_sizes([1, 2, 3, 4, 1 + GREAT], question, {"f": True, "g": False})
        self.assertEqual(worst(question, {"f": True, "g": True}), {"one": worst(question, {"f": True, "g": True})["one"]})
        self.assertEqual(set(worst(question, {"f": False, "g": False})), {"all"})
        self.assertEqual(final(question, {"f": True, "g": False}).coefficients, (1, 1))

    def test_twenty_lists(self):
        shape = ("list", ("list", ("list", ("list", "box"))))
        leaves = ("list", ("list", ("list", ("list", "text"))))
        schema = Schema({"box": ((), {"f": shape, "t": leaves})}, {}, {}, "box")
        rows = field("t", "t")
        for key in "abcd":
            rows = field("f", key, rows)
        question = asked(schema, rows)
        self.assert_sizes([0, 1, 2 ** 20, 3 ** 20, GREAT ** 20], question)
        self.assertEqual(final(question, {}).coefficients, (0,) * 20 + (1,))
        self.assertEqual(final(question, {}).degree, 20)


class Worst(unittest.TestCase):
    """[12.2]."""

    def test_fields_of_a_choice(self):
        self.assertEqual(worst(asked(BOX, SIZE, KIND), {}), {})
        self.assertEqual(worst(asked(BOX, field("near", "a"), field("near", "b"), SIZE), {}), {"near": ("box", {})})
        rows = [field("near", "a", field("lid", "x")), field("near", "b", field("near", "x", SIZE)), field("lid", "c", field("of", "y"))]
        expected = {"near": ("box", {"lid": ("cap", {}), "near": ("box", {})}), "lid": ("cap", {"of": ("box", {})})}
        self.assertEqual(worst(asked(BOX, *rows), {}), expected)
        self.assertIs(type(worst(asked(BOX, *rows), {})["near"]), tuple)

    def test_the_chosen_member(self):
        few, many = on("few", *kinds_named("k", "l", "m")), on("many", KIND, field("l", "i"), field("to", "t", on("few", KIND)))
        question = asked(LISTS, field("one", "a", few, many))
        self.assertEqual(worst(question, {}, items=0), {"one": ("few", {})})
        self.assertEqual(worst(question, {}, items=2), {"one": ("many", {"to": ("few", {})})})
        question = asked(LISTS, field("one", "a", few), field("one", "b", many))
        self.assertEqual(worst(question, {}, items=0), {"one": ("few", {})})
        self.assertEqual(worst(question, {}, items=GREAT), {"one": ("many", {"to": ("few", {})})})

    def test_a_choice_for_empty_lists(self):
        question = asked(LISTS, field("all", "a", on("many", field("to", "t", KIND))))
        choice = worst(question, {}, items=0)
        self.assertIn(choice, [{"all": ("few", {})}, {"all": ("many", {"to": ("few", {})})}, {"all": ("many", {"to": ("many", {})})}])

    def test_choices_are_new(self):
        rows = [field("near", "a", field("near", "x", SIZE), field("lid", "y", SIZE)), field("lid", "b", field("of", "x", SIZE))]
        question = asked(BOX, *rows)
        before = worst(question, {})
        changed = worst(question, {})
        changed["near"][1]["near"][1]["more"] = 1
        changed["lid"][1].clear()
        changed["other"] = 2
        self.assertEqual(worst(question, {}), before)
        self.assertEqual(changed["near"], ("box", {"near": ("box", {"more": 1}), "lid": ("cap", {})}))

    def test_equal_choices_are_not_the_same(self):
        kinds = {"box": ((), {"a": "box", "b": "box", "n": "number"})}
        schema = Schema(kinds, {}, {}, "box")
        inner = [field(name, name, field("n", "n")) for name in "ab"]
        choice = worst(asked(schema, *[field(name, name, *inner) for name in "ab"]), {})
        choice["a"][1]["a"][1]["new"] = 1
        choice["b"][1].clear()
        self.assertEqual(choice, {"a": ("box", {"a": ("box", {"new": 1}), "b": ("box", {})}), "b": ("box", {})})


class Growths(unittest.TestCase):
    """[12.3]."""

    def test_coefficients(self):
        self.assertEqual(Growth(()).coefficients, ())
        self.assertEqual(Growth((0,)).coefficients, ())
        self.assertEqual(Growth((0,) * 40).coefficients, ())
        self.assertEqual(Growth((0, 1, 0, 2, 0, 0)).coefficients, (0, 1, 0, 2))
        self.assertEqual(Growth((5,)).coefficients, (5,))
        self.assertEqual(Growth((0,) * 39 + (1,)).coefficients, (0,) * 39 + (1,))
        self.assertEqual(Growth((10 ** 5000,) * 40).coefficients, (10 ** 5000,) * 40)
        self.assertIs(type(Growth((1, 0)).coefficients), tuple)

    def test_wrong_coefficients(self):
        for coefficients in odd_values():
            if coefficients not in [(), (0,)]:
                error_of(BadNumber, Growth, coefficients)
        for wrong in WRONG_NUMBERS:
            error_of(BadNumber, Growth, (1, wrong))
            error_of(BadNumber, Growth, (wrong, 0))
        for wrong in [(0,) * 41, (1,) * 41, (1,) + (0,) * 40, [1, 2], [], {0: 1}, "12", b"12", range(3), 5, (1, (2,))]:
            error_of(BadNumber, Growth, wrong)

    def test_values(self):
        self.assertEqual(Growth(())(0), 0)
        self.assertEqual(Growth(())(GREAT), 0)
        self.assertEqual(Growth((7,))(0), 7)
        self.assertEqual(Growth((7, 2))(0), 7)
        self.assertEqual(Growth((0, 2))(0), 0)
        self.assertEqual(Growth((1, 2, 3))(10), 321)
        self.assertEqual(Growth((1, 0, 2))(GREAT), 1 + 2 * GREAT ** 2)
        self.assertEqual(Growth((0,) * 39 + (3,))(2), 3 * 2 ** 39)
        self.assertEqual([Growth((1,) * 40)(items) for items in (0, 1, 2)], [1, 40, 2 ** 40 - 1])

    def test_wrong_items(self):
        for growth in (Growth(()), Growth((1, 2))):
            for items in [*WRONG_NUMBERS, GREAT + 1, 10 ** 31]:
                error_of(BadNumber, growth, items)
            for items in odd_values():
                if type(items) is not int or not 0 <= items <= GREAT:
                    error_of(BadNumber, growth, items)

    def test_degree(self):
        self.assertIsNone(Growth(()).degree)
        self.assertIsNone(Growth((0, 0)).degree)
        self.assertEqual(Growth((1,)).degree, 0)
        self.assertEqual(Growth((0, 3, 0)).degree, 1)
        self.assertEqual(Growth((0,) * 39 + (1,)).degree, 39)

    def test_sum(self):
        self.assertEqual((Growth((1, 2)) + Growth((3, 0, 5))).coefficients, (4, 2, 5))
        self.assertEqual((Growth((3, 0, 5)) + Growth((1, 2))).coefficients, (4, 2, 5))
        self.assertEqual((Growth(()) + Growth((1, 2))).coefficients, (1, 2))
        self.assertEqual((Growth((1, 2)) + Growth(())).coefficients, (1, 2))
        self.assertEqual((Growth(()) + Growth(())).coefficients, ())
        self.assertEqual((Growth((1,) * 40) + Growth((1,) * 40)).coefficients, (2,) * 40)
        one, other = Growth((1, 2)), Growth((3,))
        self.assertIs(type(one + other), Growth)
        self.assertEqual([one.coefficients, other.coefficients], [(1, 2), (3,)])
        one += other
        self.assertEqual([one.coefficients, other.coefficients], [(4, 2), (3,)])

    def test_product(self):
        self.assertEqual((Growth((1, 2)) << 0).coefficients, (1, 2))
        self.assertEqual((Growth((1, 2)) << 1).coefficients, (0, 1, 2))
        self.assertEqual((Growth((1, 2)) << 20).coefficients, (0,) * 20 + (1, 2))
        self.assertEqual((Growth((1,) * 20) << 20).coefficients, (0,) * 20 + (1,) * 20)
        self.assertEqual((Growth((1,) * 40) << 0).coefficients, (1,) * 40)
        self.assertIs(type(Growth((1,)) << 3), Growth)
        growth = Growth((1,) * 21)
        error_of(BadNumber, lambda: growth << 20)
        error_of(BadNumber, lambda: Growth((1,) * 40) << 1)
        self.assertEqual((growth << 19).degree, 39)
        self.assertEqual(growth.coefficients, (1,) * 21)

    def test_product_without_coefficients(self):
        for power in (0, 1, 19, 20):
            self.assertEqual((Growth(()) << power).coefficients, ())
            self.assertEqual((Growth((0,) * 40) << power).coefficients, ())

    def test_wrong_powers(self):
        for growth in (Growth(()), Growth((1, 2))):
            for power in [*WRONG_NUMBERS, 21, 22, 40, GREAT]:
                error_of(BadNumber, lambda: growth << power)
            for power in odd_values():
                if type(power) is not int or not 0 <= power <= 20:
                    error_of(BadNumber, lambda: growth << power)

    def test_equal_growths(self):
        growths = [Growth(()), Growth((1,)), Growth((0, 1)), Growth((1, 1)), Growth((2,))]
        for (at, one), (to, other) in itertools.product(enumerate(growths), repeat=2):
            self.assertIs(one == other, at == to)
            self.assertIs(one != other, at != to)
        self.assertTrue(Growth((1, 0)) == Growth((1,)) and not Growth((1, 0)) != Growth((1,)))
        self.assertTrue(Growth((0,)) == Growth(()))

    def test_other_objects(self):
        for growth in (Growth(()), Growth((1,)), Growth((0, 1))):
            for other in [*odd_values(), (0, 1), [1], BOX, asked(BOX), Growth]:
                self.assertIs(growth == other, False)
                self.assertIs(growth != other, True)
                self.assertIs(other == growth, False)


class FinalAndSettled(unittest.TestCase):
    """[12.4]."""

    def assert_settled(self, coefficients, least, question, flags=None):
        growth = final(question, flags or {})
        self.assertIs(type(growth), Growth)
        self.assertEqual(growth.coefficients, coefficients)
        self.assertEqual(settled(question, flags or {}), least)
        self.assertIs(type(settled(question, flags or {})), int)
        self.assertLessEqual(least, 1 + greatest(question, flags or {}))
        for items in [*range(least, least + 5), GREAT]:
            self.assertEqual(greatest(question, flags or {}, items=items), growth(items))
        if least:
            self.assertGreater(greatest(question, flags or {}, items=least - 1), growth(least - 1))

    def test_no_choice(self):
        self.assert_settled((), 0, asked(BOX))
        self.assert_settled((), 0, asked(BOX, field("one", "a")))
        self.assert_settled((3,), 0, asked(BOX, KIND, SIZE, field("lid", "l", SIZE)))
        self.assert_settled((1, 2), 0, asked(LISTS, KIND, field("all", "a", KIND, ("kind", "l"))))

    def test_a_constant_that_is_overtaken(self):
        for many in range(6):
            few = on("few", *kinds_named(*"klmnop"[:many]))
            question = asked(LISTS, field("one", "a", few, on("many", field("l", "i"))))
            self.assert_settled((0, 1), many, question)
            question = asked(LISTS, field("one", "a", few, on("many", field("ll", "i"))))
            self.assert_settled((0, 0, 1), [0, 1, 2, 2, 2, 3][many], question)

    def test_equal_for_no_items_and_then_not(self):
        question = asked(LISTS, field("all", "a", on("few", *kinds_named("k", "l", "m")), on("many", field("l", "i"))))
        self.assert_settled((0, 0, 1), 3, question)
        self.assertEqual(greatest(question, {}, items=0), final(question, {})(0))
        question = asked(LISTS, field("all", "a", on("few", KIND), on("many", field("l", "i"))))
        self.assert_settled((0, 0, 1), 0, question)
        question = asked(LISTS, field("one", "a", on("few", KIND), on("many", field("l", "i"))))
        self.assert_settled((0, 1), 1, question)

    def test_the_smaller_powers_count_too(self):
        few = on("few", field("to", "t", on("many", field("l", "i"))), *kinds_named("k", "l", "m", "n"))
        many = on("many", field("to", "t", KIND), KIND)
        question = asked(LISTS, field("one", "a", few, many))
        self.assert_settled((4, 1), 0, question)
        self.assertEqual(worst(question, {}, items=5)["one"][0], "few")
        few = on("few", field("to", "t", on("many", field("l", "i"))))
        self.assert_settled((1, 1), 0, asked(LISTS, field("one", "a", few, many)))

    def test_final_is_no_sum_of_several_members(self):
        few, many = on("few", *kinds_named(*"klmn")), on("many", field("l", "i"))
        question = asked(LISTS, field("one", "a", few), field("one", "b", many), field("all", "c", few), field("all", "d", many))
        self.assert_settled((0, 1, 1), 4, question)

    def test_fields_that_settle_at_unlike_numbers(self):
        kinds = {"top": ((), {"a": "both", "b": "both", "c": ("list", "both")}), "few": ((), {"n": "number"}), "many": ((), {"l": ("list", "number")})}
        schema = Schema(kinds, {}, {"both": ("few", "many")}, "top")

        def row(name, many):
            return field(name, name, on("few", *kinds_named(*"klmnop"[:many])), on("many", field("l", "i")))

        for first, second, third in itertools.product((0, 2, 5), repeat=3):
            least = max(first, second, third)
            question = asked(schema, row("a", first), row("b", second), row("c", third))
            self.assert_settled((0, 2, 1), least, question)

    def test_settled_in_a_member_that_is_not_chosen(self):
        # Within "few" the number of items counts late, but "many" is greater from the beginning.
        kinds = {"top": ((), {"a": "both"}), "few": ((), {"to": "both"}), "many": ((), {"l": ("list", "number"), "m": ("list", "number")})}
        schema = Schema(kinds, {}, {"both": ("few", "many")}, "top")
        few = on("few", field("to", "t", on("few", ("kind", "x")), on("many", field("l", "i"))))
        many = on("many", KIND, ("kind", "y"), field("l", "i"), field("m", "j"))
        self.assert_settled((2, 2), 0, asked(schema, field("a", "a", few, many)))

    def wide(self, last, *more):
        """Six keys of one field, six keys below each of them, and in each of these the last rows."""
        kinds = {kind: (("all",), {"go": ("sure", "all"), "l": ("list", "number")}) for kind in "uvwxyz"}
        schema = Schema(kinds, {"all": {"go": ("sure", "all"), "l": ("list", "number")}}, {}, "u")
        return asked(schema, *[field("go", key, ("part", "p")) for key in "abcdef"], *more,
                     p=("all", *[field("go", key, ("part", "q")) for key in "abcdef"]), q=("all", *last))

    def test_wide_and_deep_questions(self):
        self.assert_settled((216,), 0, self.wide(kinds_named(*"abcdef")))
        self.assert_settled((144, 36), 0, self.wide([*kinds_named(*"abcd"), field("l", "l")]))
        choice = worst(self.wide(kinds_named(*"abcdef")), {})
        self.assertEqual([set(choice), set(choice["go"][1]), choice["go"][1]["go"][1]], [{"go"}, {"go"}, {}])

    def late(self, leaf, markers=2):
        """All 40 statements: of "few" very many names of kinds are asked, and of "many" one field alone."""
        kinds = {"top": ((), {"a": "both"}), "few": ((), {"a": "few"}),
                 "many": ((), {"l": ("list", "number"), "ll": ("list", ("list", "number"))})}
        schema = Schema(kinds, {}, {"both": ("few", "many")}, "top")
        rows = [field("a", key, ("part", "p")) for key in "bcdef"]
        first = field("a", "a", ("part", "p"), on("many", field(leaf, "l")))
        return asked(schema, first, *rows, p=("few", *[field("a", key, ("part", "q"), ("part", "r")) for key in "abcdef"]),
                     q=("few", *kinds_named(*"abcdef")), r=("few", *kinds_named(*"gh"[:markers])))

    def test_overtaken_very_late(self):
        self.assertEqual(len(self.late("l")), 40)
        self.assertEqual(greatest(self.late("l"), {}), 288)
        self.assert_settled((0, 1), 288, self.late("l"))
        self.assert_settled((0, 1), 252, self.late("l", 1))
        self.assert_settled((0, 0, 1), 17, self.late("ll"))
        self.assertEqual(worst(self.late("l"), {}, items=287), {"a": ("few", {"a": ("few", {})})})
        self.assertEqual(worst(self.late("l"), {}, items=289), {"a": ("many", {})})


class Errors(unittest.TestCase):
    """[12.5], and [2] for these functions."""

    def setUp(self):
        self.question = asked(BOX, asked_if("f", True, KIND, field("size", "k")), field("one", "o", KIND))

    def test_flags(self):
        for flags in [*odd_values(), {"f": 1}, {"f": None}, {"f": True, "g": True}, {"g": True}]:
            for call in (greatest, worst, final, settled):
                error_of(BadFlags, call, self.question, flags)
            error_of(BadFlags, lambda: greatest(self.question, flags, items=None))
            error_of(BadFlags, lambda: worst(self.question, flags, items=-1))

    def test_items(self):
        for call in (greatest, worst):
            for items in (0, 1, 2, GREAT):
                call(self.question, {"f": False}, items=items)
            wrong = [value for value in odd_values() if type(value) is not int or not 0 <= value <= GREAT]
            for items in [*wrong, *WRONG_NUMBERS, GREAT + 1, 10 ** 31]:
                for flags in ({"f": False}, {"f": True}):
                    error_of(BadNumber, lambda: call(self.question, flags, items=items))

    def test_clashes(self):
        deep = asked(BOX, field("near", "b", ("kind", "c"), field("size", "c")), field("near", "a", field("near", "z", KIND, field("lid", "k"))))
        for call in (greatest, worst, final, settled):
            self.assertEqual(error_of(Clash, call, self.question, {"f": True}).way, ("k",))
            self.assertEqual(error_of(Clash, call, deep, {}).way, ("a", "z", "k"))
            call(self.question, {"f": False})
        for items in (0, GREAT):
            self.assertEqual(error_of(Clash, lambda: greatest(self.question, {"f": True}, items=items)).way, ("k",))

    def test_items_is_a_keyword(self):
        for call in (greatest, worst):
            with self.assertRaises(TypeError):
                call(self.question, {"f": False}, 1)

    def test_arguments_stay(self):
        flags = {"f": False}
        for call in (greatest, worst, final, settled):
            call(self.question, flags)
        self.assertEqual(flags, {"f": False})
        self.assertTrue(self.question == asked(BOX, asked_if("f", True, KIND, field("size", "k")), field("one", "o", KIND)))


if __name__ == "__main__":
    unittest.main()
