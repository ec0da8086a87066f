"""Flags and their truths."""

from nestedwishes.errors import BadFlags


def check_flags(names, flags):
    """Raise BadFlags if flags are not a dict from exactly these names to True and False."""
    if not isinstance(flags, dict) or len(flags) != len(names):
        raise BadFlags("not a dict of all flags")
    if not all([name in flags and isinstance(flags[name], bool) for name in names]):
        raise BadFlags("not a truth for every flag")


def all_truths(names):
    """Return all dicts from these names to True and False. False comes first, and the first name counts most."""
    truths = [{}]
    for name in names:
        truths = [{**truth, name: wanted} for truth in truths for wanted in (False, True)]
    return truths


def common_flags(one, other):
    """Return the flags that at least one of two questions has, ascending."""
    return sorted(set([*one.flags(), *other.flags()]))
