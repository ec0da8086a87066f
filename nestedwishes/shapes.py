"""Shapes: a base with at most four wrappers around it."""

LEAVES = ("number", "text")
WRAPPERS = ("list", "sure")
MOST_WRAPPERS = 4


def is_shape(shape, bases, room=MOST_WRAPPERS, outer=""):
    """Tell if a value is a shape over these bases, inside of the wrapper `outer` with room for so many more."""
    if not isinstance(shape, tuple):
        return isinstance(shape, str) and shape in bases
    if room == 0 or len(shape) != 2 or shape[0] not in WRAPPERS:
        return False
    if shape[0] == "sure" and outer == "sure":
        return False
    return is_shape(shape[1], bases, room - 1, shape[0])


def target_of(shape):
    """Return the base inside a shape."""
    if isinstance(shape, tuple):
        return target_of(shape[1])
    return shape


def is_sure(shape):
    """Tell if the outermost wrapper of a shape is "sure"."""
    return isinstance(shape, tuple) and shape[0] == "sure"


def lists_in(shape):
    """Return the number of lists in a shape."""
    if not isinstance(shape, tuple):
        return 0
    if shape[0] == "list":
        return 1 + lists_in(shape[1])
    return lists_in(shape[1])


def is_sure_thing(shape):
    """Tell if a value of a shape always leads to exactly one thing."""
    return is_sure(shape) and not isinstance(shape[1], tuple) and shape[1] not in LEAVES
