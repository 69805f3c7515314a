"""Gives parts to choices, where for each set of choices there are enough."""

from kitsleft.nets import open_parts, sets_of


def spare_beside(options, wants, spare, choice, part):
    """How many pieces of the part can go to the choice, so that the other choices still can have all they want."""
    most = min(wants[choice], spare[part])
    others = [other for other in options if other != choice and wants[other] > 0]
    for some in sets_of(others):
        parts = open_parts(options, some)
        if part in parts:
            free = sum([spare[name] for name in parts]) - sum([wants[other] for other in some])
            most = min(most, free)
    return most


def gifts_for(options, asked, left):
    """The giving in which each choice in turn has as many of its first options as can be."""
    wants = dict([(choice, asked[choice]) for choice in options])
    spare = dict(left)
    given = []
    for choice in options:
        for part in options[choice]:
            number = spare_beside(options, wants, spare, choice, part)
            if number > 0:
                given.append((choice, part, number))
                wants[choice] = wants[choice] - number
                spare[part] = spare[part] - number
    return tuple(given)
