"""Questions: trees of wishes over a schema."""

from nestedwishes.errors import NoPlace, Unlike, UnlikeSchemas
from nestedwishes.names import is_plain_int
from nestedwishes.question_checks import checked_statements
from nestedwishes.statements import flags_of


class Question:
    """The rows that are asked of the root of a schema, and the parts that they may use."""

    def __init__(self, schema, rows, parts):
        found = checked_statements(schema, rows, parts)
        self.schema = schema
        self.rows = rows
        self.part_table = {name: parts[name] for name in parts}
        # Places stand in it in reading order.
        self.statement_table = {place: (base, statement) for place, base, statement in found}

    def __eq__(self, other):
        return (isinstance(other, Question) and self.schema == other.schema and self.rows == other.rows
                and self.part_table == other.part_table)

    def __add__(self, other):
        if self.schema != other.schema:
            raise UnlikeSchemas("the questions have different schemas")
        for name in sorted(self.part_table):
            if name in other.part_table and self.part_table[name] != other.part_table[name]:
                raise Unlike(name)
        return Question(self.schema, self.rows + other.rows, {**self.part_table, **other.part_table})

    def __len__(self):
        return len(self.statement_table)

    def __contains__(self, place):
        # True and False would be found as 1 and 0, and not every value could be looked up in a dict.
        if not isinstance(place, tuple):
            return False
        return all([isinstance(step, str) or is_plain_int(step) for step in place]) and place in self.statement_table

    def __getitem__(self, place):
        if place not in self:
            raise NoPlace(place)
        return self.statement_table[place][1]

    def __iter__(self):
        raise TypeError("a question is not iterated; take its places")

    def parts(self):
        """Return a dict from the names of the parts to tuples (base, rows)."""
        return dict(self.part_table)

    def flags(self):
        """Return the flags of all statements, ascending."""
        return flags_of([self.statement_table[place][1] for place in self.statement_table])

    def places(self):
        """Give the places of all statements, in reading order."""
        for place in self.statement_table:
            yield place

    def base_at(self, place):
        """Return the base that stands at the statement at a place."""
        if place not in self:
            raise NoPlace(place)
        return self.statement_table[place][0]
