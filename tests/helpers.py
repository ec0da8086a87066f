"""What several tests need: values of every built-in kind, a check for errors, some schemas, and short ways to write
questions."""

from nestedwishes.questions import Question
from nestedwishes.schemas import Schema

BAD_NAMES = ["", "abcdefghi", "Cat", "caT", "c1", "c_t", "c t", "cat ", "c-t", "\u00e4", "ca\n", "\u0430"]


def nested(depth, kind):
    """A value of lists, tuples or dicts inside each other."""
    value = kind()
    for _ in range(depth - 1):
        if kind is list:
            value = [value]
        elif kind is tuple:
            value = (value,)
        else:
            value = {"a": value}
    return value


def deep_shape(word, depth):
    value = "text"
    for _ in range(depth):
        value = (word, value)
    return value


def deep_rows(depth):
    rows = ()
    for _ in range(depth // 2):
        rows = (("on", "cat", rows),)
    return rows


def odd_values():
    """Values of every built-in kind. Each call makes new ones."""
    return [
        None, True, False, 0, 1, 2, -1, 7, 10 ** 40, 10 ** 5000, "", "a", "zz", "abcdefgh", "number", "text", "list",
        *BAD_NAMES, b"", b"a", b"cat", [], ["a"], [["a"]], ["cat"], [0], (), ("a",), ("cat",), (0,), (None,),
        ("list",), ("list", "a", "b"), ("list", []), ([], {}), ("cat", ()), ((), {}), ((), {"a": "text"}),
        {}, {"a": 1}, {"a": "text"}, {"cat": ((), {})}, {1: 2}, {None: None}, {("a",): ()}, {b"a": b"a"}, {True: True},
        set(), {"a"}, {1, 2}, frozenset(), frozenset({"a"}), range(3), bytearray(b"a"), Ellipsis, int, len,
        slice(0, 1), slice(None),
        nested(90, list), nested(90, tuple), nested(90, dict), [set()], ({"a"},), {"a": {"b": [{1}, (b"", None)]}},
        deep_shape("list", 90), deep_shape("sure", 90), deep_rows(90), ("field", nested(88, list), "k", ()),
    ]


def error_of(kind, call, *arguments):
    """The error of this kind that a call raises."""
    try:
        given = call(*arguments)
    except ValueError as error:
        assert type(error) is kind, f"{kind.__name__} expected, not {error!r}"
        return error
    raise AssertionError(f"{kind.__name__} expected, not {given!r}")


def pet_parts():
    """New arguments for a schema with a face and a union, in the order of Schema."""
    kinds = {
        "cat": (("pet",), {"name": "text"}),
        "dog": (("pet",), {"name": "text", "chases": ("list", "cat")}),
        "person": ((), {"name": ("sure", "text"), "pets": ("sure", ("list", "pet")), "likes": "any"}),
    }
    return [kinds, {"pet": {"name": "text"}}, {"any": ("person", "dog")}, "person"]


def pet_schema():
    return Schema(*pet_parts())


def box_schema():
    """Two kinds, of which one leads to itself, to the other one and to both."""
    kinds = {
        "box": ((), {"size": "number", "near": "box", "lid": "cap", "one": "thing"}),
        "cap": ((), {"size": "number", "of": "box"}),
    }
    return Schema(kinds, {}, {"thing": ("box", "cap")}, "box")


def field(name, key, *rows):
    return ("field", name, key, tuple(rows))


def on(base, *rows):
    return ("on", base, tuple(rows))


def asked_if(flag, wanted, *rows):
    return ("if", flag, wanted, tuple(rows))


def asked(schema, *rows, **parts):
    """A question; each part is given as a tuple of its base and its statements."""
    return Question(schema, tuple(rows), {name: (part[0], tuple(part[1:])) for name, part in parts.items()})


def things_of(store):
    """The things of a store, as they are handed to it."""
    return {name: (store.kind_of(name), {at: store.value(name, at) for at in store.schema.fields(store.kind_of(name))})
            for name in store.things()}
