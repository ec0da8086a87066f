"""Of which kinds the statements of a question are asked."""

from nestedwishes.entries import gives_rows, rows_given
from nestedwishes.truths import all_truths


def asked_pairs(question, truth):
    """Return a dict whose keys are the pairs (place, kind) of the statements asked of a kind under a truth."""
    pairs = {}
    waiting = pairs_inside((), question.rows, [question.schema.root])
    while waiting:
        place, kind = waiting.pop()
        if (place, kind) not in pairs:
            pairs[place, kind] = True
            waiting.extend(pairs_after(question, place, kind, truth))
    return pairs


def pairs_inside(place, rows, kinds):
    """Return the pairs of each statement directly in the rows at a place and each of the kinds."""
    return [(place + (index,), kind) for index in range(len(rows)) for kind in kinds]


def pairs_after(question, place, kind, truth):
    """Return the pairs of the statements that are asked because this one is asked of this kind."""
    statement = question[place]
    if statement[0] == "kind":
        return []
    if statement[0] == "field":
        schema = question.schema
        return pairs_inside(place, statement[3], schema.members(schema.target(kind, statement[1])))
    if not gives_rows(question, statement, kind, truth):
        return []
    top = place
    if statement[0] == "part":
        top = (statement[1],)
    return pairs_inside(top, rows_given(question, statement), [kind])


def asked_places(question):
    """Return a dict whose keys are the places of the statements that are asked of some kind under some truth."""
    reached = {}
    for truth in all_truths(question.flags()):
        for place, kind in asked_pairs(question, truth):
            reached[place] = True
    return reached
