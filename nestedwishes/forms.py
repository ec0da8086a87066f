"""Plain forms of questions, and questions with simpler rows."""

from nestedwishes.asked import asked_pairs, asked_places
from nestedwishes.entries import members_below, wishes_of
from nestedwishes.errors import NoPlace
from nestedwishes.questions import Question
from nestedwishes.sites import Sites, check_clashes
from nestedwishes.truths import all_truths, check_flags


def plain(question, flags):
    """Return the plain form of a question for these flags."""
    check_flags(question.flags(), flags)
    check_clashes(Sites(question, flags))
    return plain_rows(question, question.rows, question.schema.root, flags)


def plain_rows(question, rows, kind, truth):
    """Return the plain form of rows in which no key clashes."""
    wishes = wishes_of(question, rows, kind, truth)
    form = {}
    for key in wishes:
        names, inner = wishes[key]
        form[key] = (names[0], plain_field(question, inner, members_below(question.schema, kind, names[0]), truth))
    return form


def plain_field(question, rows, kinds, truth):
    """Return a dict from each kind to the plain form of rows, or None if there are no kinds to ask."""
    if kinds is None:
        return None
    return {kind: plain_rows(question, rows, kind, truth) for kind in kinds}


def applies(question, place):
    """Return the ascending list of the tuples (kind, flags) under which a statement is asked."""
    if place not in question:
        raise NoPlace(place)
    found = []
    for truth in all_truths(question.flags()):
        pairs = asked_pairs(question, truth)
        written = tuple(sorted(truth.items()))
        found.extend([(kind, written) for kind in question.schema.kinds() if (place, kind) in pairs])
    return sorted(found)


def pruned(question):
    """Return the question without its needless statements and parts."""
    asked = asked_places(question)
    parts = {}
    for name, (base, rows) in question.parts().items():
        inner = needed_rows(question, (name,), rows, asked)
        if inner:
            parts[name] = (base, inner)
    return Question(question.schema, needed_rows(question, (), question.rows, asked), parts)


def needed_rows(question, place, rows, asked):
    """Return the rows at a place without the needless statements, where the asked places are the keys of a dict."""
    found = []
    for index in range(len(rows)):
        below = place + (index,)
        if below in asked:
            found.extend(needed_statement(question, below, rows[index], asked))
    return tuple(found)


def needed_statement(question, place, statement, asked):
    """Return a list of what is left of an asked statement: one statement, or none."""
    if statement[0] == "kind":
        return [statement]
    if statement[0] == "part":
        name = statement[1]
        if needed_rows(question, (name,), question.parts()[name][1], asked):
            return [statement]
        return []
    inner = needed_rows(question, place, statement[-1], asked)
    if inner or statement[0] == "field":
        return [statement[:-1] + (inner,)]
    return []


def fixed(question, flags):
    """Return the question without "if" statements that has the plain form of this one under these flags."""
    check_flags(question.flags(), flags)
    parts = {}
    for name, (base, rows) in question.parts().items():
        parts[name] = (base, fixed_rows(question, (name,), rows, flags))
    return Question(question.schema, fixed_rows(question, (), question.rows, flags), parts)


def fixed_rows(question, place, rows, flags):
    """Return the rows at a place with "on" for each "if" whose flag has the wanted value, and without the others."""
    found = []
    for index in range(len(rows)):
        found.extend(fixed_statement(question, place + (index,), rows[index], flags))
    return tuple(found)


def fixed_statement(question, place, statement, flags):
    """Return a list of what is left of a statement under these flags: one statement, or none."""
    if statement[0] == "kind" or statement[0] == "part":
        return [statement]
    inner = fixed_rows(question, place, statement[-1], flags)
    if statement[0] != "if":
        return [statement[:-1] + (inner,)]
    if flags[statement[1]] == statement[2]:
        return [("on", question.base_at(place), inner)]
    return []
