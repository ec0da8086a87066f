"""Schemas: which kinds of things there are, and which fields they have."""

from nestedwishes.errors import BadShape, NoBase, NoField
from nestedwishes.names import is_key
from nestedwishes.schema_checks import check_schema
from nestedwishes.shapes import LEAVES, is_shape, is_sure, target_of


class Schema:
    """The kinds with their faces and fields, the faces, the unions, and the kind that is the root."""

    def __init__(self, kinds, faces, unions, root):
        check_schema(kinds, faces, unions, root)
        # Faces and kinds in tuples are sorted, because their order means nothing when schemas are compared.
        self.kind_table = {name: (tuple(sorted(kinds[name][0])), dict(kinds[name][1])) for name in kinds}
        self.face_table = {name: dict(faces[name]) for name in faces}
        self.union_table = {name: tuple(sorted(unions[name])) for name in unions}
        self.root = root

    def __eq__(self, other):
        return (isinstance(other, Schema) and self.kind_table == other.kind_table
                and self.face_table == other.face_table and self.union_table == other.union_table
                and self.root == other.root)

    def __contains__(self, base):
        return is_key(base, self.bases())

    def bases(self):
        """Return the names of all leaves, kinds, faces and unions."""
        return [*LEAVES, *self.kind_table, *self.face_table, *self.union_table]

    def kinds(self):
        """Return the names of the kinds, ascending."""
        return sorted(self.kind_table)

    def faces(self):
        """Return the names of the faces, ascending."""
        return sorted(self.face_table)

    def unions(self):
        """Return the names of the unions, ascending."""
        return sorted(self.union_table)

    def members(self, base):
        """Return the kinds that can stand at a base, ascending."""
        if base not in self:
            raise NoBase(base)
        if base in self.kind_table:
            return [base]
        if base in self.union_table:
            return list(self.union_table[base])
        return sorted([kind for kind in self.kind_table if base in self.kind_table[kind][0]])

    def shapes_at(self, base):
        """Return a dict from the fields of a base to their shapes."""
        if base not in self:
            raise NoBase(base)
        if base in self.kind_table:
            return dict(self.kind_table[base][1])
        if base in self.face_table:
            return dict(self.face_table[base])
        return {}

    def fields(self, base):
        """Return the field names of a kind or a face, ascending; other bases have none."""
        return sorted(self.shapes_at(base))

    def shape_of(self, base, field):
        """Return the shape of a field of a kind or a face."""
        shapes = self.shapes_at(base)
        if not is_key(field, shapes):
            raise NoField(base, field)
        return shapes[field]

    def target(self, base, field):
        """Return the base inside the shape of a field."""
        return target_of(self.shape_of(base, field))

    def sure(self, base, field):
        """Tell if a field must not be empty."""
        return is_sure(self.shape_of(base, field))

    def faces_with(self, kind, field):
        """Return those faces of a kind that have this field."""
        return [face for face in self.kind_table[kind][0] if field in self.face_table[face]]

    def linked(self, kind, field):
        """Return the kinds in which a field can only change its shape together with that of this kind."""
        if not is_key(kind, self.kind_table):
            raise NoBase(kind)
        if not is_key(field, self.kind_table[kind][1]):
            raise NoField(kind, field)
        found = []
        waiting = [kind]
        while waiting:
            other = waiting.pop()
            if other not in found:
                found.append(other)
                for face in self.faces_with(other, field):
                    waiting.extend(self.members(face))
        return sorted(found)

    def with_shape(self, kind, field, shape):
        """Return a schema in which the field has another shape, in all linked kinds and their faces."""
        changed_kinds = self.linked(kind, field)
        if not is_shape(shape, self.bases()):
            raise BadShape("not a shape of the schema")
        kinds = dict(self.kind_table)
        faces = dict(self.face_table)
        for name in changed_kinds:
            kinds[name] = (kinds[name][0], {**kinds[name][1], field: shape})
            for face in self.faces_with(name, field):
                faces[face] = {**faces[face], field: shape}
        return Schema(kinds, faces, self.union_table, self.root)
