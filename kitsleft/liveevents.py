"""The events of live shops, by their form alone."""

from kitsleft.kinds import is_name, is_positive

# What stands behind the first word of an event.
FORMS = {
    "owe": ("name",),
    "give": ("name",),
    "back": ("name",),
    "hold": ("name", "name", "positive"),
    "free": ("name",),
    "buy": ("name",),
    "goods": ("name", "positive"),
    "build": ("name", "takes"),
    "apart": ("name",),
    "note": ("name",),
}


def is_some_takes(thing):
    """Whether any value is a nonempty tuple of tuples of names."""
    if not isinstance(thing, tuple) or len(thing) == 0 or not all([isinstance(take, tuple) for take in thing]):
        return False
    return all([is_name(name) for take in thing for name in take])


def is_of_kind(thing, kind):
    """Whether any value can stand in an event at a place of this kind."""
    if kind == "name":
        return is_name(thing)
    if kind == "positive":
        return is_positive(thing)
    return is_some_takes(thing)


def is_event(thing):
    """Whether any value is an event by form."""
    if not isinstance(thing, tuple) or len(thing) == 0 or not isinstance(thing[0], str):
        return False
    if thing[0] not in FORMS:
        return False
    kinds = FORMS[thing[0]]
    if len(thing) != len(kinds) + 1:
        return False
    return all([is_of_kind(part, kind) for part, kind in zip(thing[1:], kinds)])
