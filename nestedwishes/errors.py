"""The errors of the program. Their attributes tell what was wrong."""


class WishError(ValueError):
    """The base class of all errors of the program."""


class BadSchema(WishError):
    """A part of a schema is wrong: "kinds", "faces", "unions" or "root"."""

    def __init__(self, part, name):
        self.part = part
        self.name = name


class BadShape(WishError):
    """A value is not a shape of the schema."""


class NoBase(WishError):
    """A value is not a base of the schema, or not one of the needed sort."""

    def __init__(self, base):
        self.base = base


class NoField(WishError):
    """A base has no such field."""

    def __init__(self, base, field):
        self.base = base
        self.field = field


class BadQuestion(WishError):
    """The statement or the part at a place of a question is wrong."""

    def __init__(self, place):
        self.place = place


class NoPlace(WishError):
    """A question has no statement at this place."""

    def __init__(self, place):
        self.place = place


class Unlike(WishError):
    """Two questions have different parts under one name."""

    def __init__(self, part):
        self.part = part


class UnlikeSchemas(WishError):
    """Two schemas that should be equal are not."""


class BadFlags(WishError):
    """The flags are not a dict from every flag to its truth."""


class BadStore(WishError):
    """A thing of a store, or the value of its field, is wrong."""

    def __init__(self, thing, field):
        self.thing = thing
        self.field = field


class NoThing(WishError):
    """There is no thing with this name."""

    def __init__(self, thing):
        self.thing = thing


class Clash(WishError):
    """Two wishes of different names meet under the last key of a way."""

    def __init__(self, way):
        self.way = way


class Unclear(WishError):
    """An answer does not tell the kind of the things at a way."""

    def __init__(self, way):
        self.way = way


class TooMany(WishError):
    """More changes than this would have to be tried."""

    def __init__(self, most):
        self.most = most


class BadNumber(WishError):
    """A number is out of its bounds, or not an integer."""


class BadName(WishError):
    """A value is not a name."""

    def __init__(self, name):
        self.name = name


class NoWatch(WishError):
    """No question is watched under this name."""

    def __init__(self, name):
        self.name = name


class NoText(WishError):
    """A line of a text is wrong; 0 stands for what is no text at all."""

    def __init__(self, line):
        self.line = line
