"""The checker of shops: what is the first thing that is wrong with one."""

from kitsleft.kinds import is_choice, is_one_of, is_pack_head, is_part, is_positive, is_tuple_of
from kitsleft.refusals import refuse_paper_unless
from kitsleft.shopparts import inside_of


def has_shape(thing):
    """Whether it is a triple of tuples, the first one nonempty."""
    return is_tuple_of(thing, 3) and all([isinstance(rows, tuple) for rows in thing]) and len(thing[0]) > 0


def is_risen(rows, at):
    """Whether the name at the beginning of this row is greater than that of the row before."""
    return at == 0 or rows[at - 1][0] < rows[at][0]


def check_rows(parts, choices, packs):
    """Refuses the first part, choice or pack that is none, whatever else has its name or is in its sheet."""
    for at, part in enumerate(parts):
        refuse_paper_unless(is_part(part) and is_risen(parts, at), "part", at)
    stocks = dict(parts)
    for at, choice in enumerate(choices):
        refuse_paper_unless(is_choice(choice, stocks) and is_risen(choices, at), "choice", at)
    for at, pack in enumerate(packs):
        refuse_paper_unless(is_pack_head(pack) and is_risen(packs, at), "pack", at)


def check_names(parts, choices, packs):
    """Refuses the first choice or pack whose name is that of a part, or of a choice."""
    taken = {row[0]: True for row in parts}
    for at, choice in enumerate(choices):
        refuse_paper_unless(choice[0] not in taken, "name", (1, at))
    taken = {row[0]: True for row in [*parts, *choices]}
    for at, pack in enumerate(packs):
        refuse_paper_unless(pack[0] not in taken, "name", (2, at))


def is_entry(thing, open_to):
    """Whether any value can stand in a sheet that may name just these."""
    return is_tuple_of(thing, 2) and is_one_of(thing[0], open_to) and is_positive(thing[1])


def check_sheets(parts, choices, packs):
    """Refuses the first element of a sheet that is not as it must be."""
    for at, (pack, _, apart, sheet) in enumerate(packs):
        inner = [*parts, *packs] if apart else [*parts, *choices, *packs]
        open_to = {row[0]: True for row in inner if row[0] != pack}
        for place, entry in enumerate(sheet):
            refuse_paper_unless(is_entry(entry, open_to) and is_risen(sheet, place), "sheet", (at, place))


def lets_shop(thing):
    """True for a shop; any other value is refused."""
    refuse_paper_unless(has_shape(thing), "shape", -1)
    parts, choices, packs = thing
    check_rows(parts, choices, packs)
    check_names(parts, choices, packs)
    check_sheets(parts, choices, packs)
    for at, pack in enumerate(packs):
        refuse_paper_unless(pack[0] not in inside_of(thing, pack[0]), "ring", at)
    return True
