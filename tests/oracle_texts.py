"""The second reading goes on: texts of worlds and of questions (rows, parts), by patterns."""

import re

NAME = "[a-z]{1,8}"
SCHEMA_LINE = re.compile(f"(kind|union)( {NAME})+|(face|root) {NAME}|field {NAME}( (list|sure))* {NAME}")
QUESTION_LINE = re.compile(rf"part {NAME} {NAME}|\.{{0,4}}(field {NAME} {NAME}|(kind|on|use) {NAME}|if {NAME} (true|false))")


def words_of_shape(shape):
    words = []
    while isinstance(shape, tuple):
        words.append(shape[0])
        shape = shape[1]
    return " ".join([*words, shape])


def schema_blocks(world):
    """Lists of lines: each "kind", "face", "union" and "root" line with the field lines that belong to it."""
    blocks = []
    for kind, (faces, fields) in sorted(world["kinds"].items()):
        blocks.append([" ".join(["kind", kind, *sorted(faces)])]
                      + [f"field {field} {words_of_shape(fields[field])}" for field in sorted(fields)])
    for face, fields in sorted(world["faces"].items()):
        blocks.append([f"face {face}"] + [f"field {field} {words_of_shape(fields[field])}" for field in sorted(fields)])
    for union, kinds in sorted(world["unions"].items()):
        blocks.append([" ".join(["union", union, *sorted(kinds)])])
    return blocks + [[f"root {world['root']}"]]


def schema_text(world):
    return "\n".join(line for block in schema_blocks(world) for line in block)


def wrong_schema_line(text):
    """The number of the first wrong line, or None."""
    lines = text.split("\n") if text else []
    seen, owner = [], None
    for number, line in enumerate(lines, 1):
        if not SCHEMA_LINE.fullmatch(line):
            return number
        word, name = line.split(" ")[:2]
        if word != "field":
            owner = (word, name)
            mark = word if word == "root" else owner
        elif owner is None or owner[0] not in ("kind", "face"):
            return number
        else:
            mark = (owner, name)
        if mark in seen:
            return number
        seen.append(mark)
    return None if "root" in seen else len(lines) + 1


def statement_lines(rows, dots=""):
    for statement in rows:
        word = {"part": "use"}.get(statement[0], statement[0])
        inner = statement[-1] if word in ("field", "on", "if") else ()
        told = [str(item).lower() for item in statement[1:] if not isinstance(item, tuple)]
        yield " ".join([dots + word, *told])
        yield from statement_lines(inner, dots + ".")


def question_text(rows, parts):
    lines = list(statement_lines(rows))
    for name, (base, inner) in sorted(parts.items()):
        lines += [f"part {name} {base}", *statement_lines(inner)]
    return "\n".join(lines)


def dots_of(line):
    return len(re.match(r"\.*", line).group())


def wrong_question_line(text):
    """The number of the first wrong line, or None."""
    lines = text.split("\n") if text else []
    names = []
    for number, line in enumerate(lines, 1):
        if not QUESTION_LINE.fullmatch(line):
            return number
        before = lines[number - 2] if number > 1 else "part"
        room = 0 if before.startswith("part") else dots_of(before) + bool(re.match(r"\.*(field|on|if) ", before))
        if dots_of(line) > room:
            return number
        if line.startswith("part"):
            name = line.split(" ")[1]
            if name in names:
                return number
            names.append(name)
    return None


def rows_and_parts(text):
    """What a text without wrong lines tells."""
    rows = []
    parts = {}
    around = [rows]
    for line in text.split("\n") if text else []:
        word, *rest = line.strip(".").split(" ")
        if word == "part":
            parts[rest[0]] = (rest[1], [])
            around = [parts[rest[0]][1]]
            continue
        del around[dots_of(line) + 1:]
        if word == "if":
            rest[1] = rest[1] == "true"
        statement = [{"use": "part"}.get(word, word), *rest]
        around[-1].append(statement)
        if word in ("field", "on", "if"):
            statement.append([])
            around.append(statement[-1])
    return frozen(rows), {name: (base, frozen(inner)) for name, (base, inner) in parts.items()}


def frozen(value):
    return tuple(frozen(item) for item in value) if isinstance(value, list) else value
