"""Which values are integers, numbers, names, sets of names, shops, rows and deeds."""

from kitsleft.pieces import options_in, packs_in, pieces_in, sheets_in

LETTERS = "abcdefghijklmnopqrstuvwxyz"
LONGEST_NAME = 8


def is_integer(thing):
    """Whether it is an int that is not a bool."""
    return isinstance(thing, int) and not isinstance(thing, bool)


def is_number(thing):
    """Whether it is an integer that is at least 0."""
    return is_integer(thing) and thing >= 0


def is_positive(thing):
    """Whether it is an integer that is at least 1."""
    return is_integer(thing) and thing >= 1


def is_name(thing):
    """Whether it is a string of one to eight lowercase letters."""
    if not isinstance(thing, str) or not 1 <= len(thing) <= LONGEST_NAME:
        return False
    return all([letter in LETTERS for letter in thing])


def is_tuple_of(thing, size):
    """Whether it is a tuple of so many elements."""
    return isinstance(thing, tuple) and len(thing) == size


def are_rising(things):
    """Whether each one is greater than the one before; they can be compared."""
    return all([early < late for early, late in zip(things, things[1:])])


def rise_by_name(rows):
    """Whether the first elements, which are names, rise."""
    return are_rising([row[0] for row in rows])


def is_one_of(thing, names):
    """Whether any value is one of these names, of a list or of the keys of a dict."""
    # A list cannot be looked up in a dict: its kind comes first.
    return isinstance(thing, str) and thing in names


def is_names(thing):
    """Whether it is a set of names."""
    return isinstance(thing, tuple) and all([is_name(name) for name in thing]) and are_rising(thing)


def is_counted_name(thing):
    """Whether any value is a pair of a name and an integer that is at least 1."""
    return is_tuple_of(thing, 2) and is_name(thing[0]) and is_positive(thing[1])


def is_part(thing):
    """Whether it can stand among the parts of a shop."""
    return is_tuple_of(thing, 2) and is_name(thing[0]) and is_number(thing[1])


def is_choice(thing, stocks):
    """Whether it can stand among the choices of a shop with these parts."""
    if not is_tuple_of(thing, 2) or not is_name(thing[0]) or not is_names(thing[1]):
        return False
    return len(thing[1]) >= 2 and all([name in stocks for name in thing[1]])


def is_pack_head(thing):
    """Whether it can stand among the packs of a shop, whatever is in its sheet."""
    if not is_tuple_of(thing, 4) or not is_name(thing[0]) or not is_number(thing[1]):
        return False
    return isinstance(thing[2], bool) and isinstance(thing[3], tuple) and len(thing[3]) > 0


def are_parts(things):
    """Whether they are the parts of a shop."""
    return len(things) > 0 and all([is_part(thing) for thing in things]) and rise_by_name(things)


def are_choices(things, stocks):
    """Whether they are choices of a shop with these parts."""
    return all([is_choice(thing, stocks) for thing in things]) and rise_by_name(things)


def are_pack_heads(things):
    """Whether they are packs of a shop, whatever is in their sheets."""
    return all([is_pack_head(thing) for thing in things]) and rise_by_name(things)


def has_fit_sheet(pack, members, choices):
    """Whether the sheet of the pack names only what it may, of these members of its shop."""
    # That it does not name itself is left to has_ring.
    _, _, apart, sheet = pack
    if not all([is_tuple_of(entry, 2) and is_one_of(entry[0], members) for entry in sheet]):
        return False
    if not rise_by_name(sheet) or not all([is_positive(count) for _, count in sheet]):
        return False
    return not (apart and any([entry[0] in choices for entry in sheet]))


def has_ring(packs):
    """Whether a pack contains itself, also if just its own sheet names it."""
    sheets = {pack[0]: [name for name, _ in pack[3]] for pack in packs}
    left = list(sheets)
    while left:
        kept = [name for name in left if any([inner in left for inner in sheets[name]])]
        if len(kept) == len(left):
            return True
        left = kept
    return False


def is_shop(thing):
    """Whether it is a shop."""
    if not is_tuple_of(thing, 3) or not all([isinstance(rows, tuple) for rows in thing]):
        return False
    parts, choices, packs = thing
    if not are_parts(parts) or not are_choices(choices, dict(parts)) or not are_pack_heads(packs):
        return False
    names = [row[0] for row in [*parts, *choices, *packs]]
    members = {name: True for name in names}
    if len(members) < len(names):
        return False
    return all([has_fit_sheet(pack, members, dict(choices)) for pack in packs]) and not has_ring(packs)


def is_row(shop, thing):
    """Whether it is a row of the shop."""
    if not isinstance(thing, tuple) or not all([is_tuple_of(pair, 2) for pair in thing]):
        return False
    articles = pieces_in(shop)
    if not all([is_one_of(pair[0], articles) and is_positive(pair[1]) for pair in thing]):
        return False
    return rise_by_name(thing)


def is_take(thing, count, options):
    """Whether it names so many of the options."""
    return is_tuple_of(thing, count) and all([is_one_of(name, options) for name in thing])


def are_takes(shop, sheet, thing):
    """Whether it has for each name of the sheet what a building of it wants."""
    if not is_tuple_of(thing, len(sheet)):
        return False
    options = options_in(shop)
    # Of a part or a pack nothing is to be chosen: its tuple is empty.
    wanted = [count if name in options else 0 for name, count in sheet]
    open_to = [options.get(name, ()) for name, _ in sheet]
    return all([is_take(take, many, some) for take, many, some in zip(thing, wanted, open_to)])


def is_building(shop, thing):
    """Whether it is a deed "build" of the shop."""
    if not is_tuple_of(thing, 3) or thing[0] != "build":
        return False
    sheets = sheets_in(shop)
    return is_one_of(thing[1], sheets) and are_takes(shop, sheets[thing[1]], thing[2])


def is_parting(shop, thing):
    """Whether it is a deed "apart" of the shop."""
    if not is_tuple_of(thing, 2) or thing[0] != "apart":
        return False
    packs = packs_in(shop)
    return is_one_of(thing[1], packs) and packs[thing[1]][2]


def is_selling(shop, thing):
    """Whether it is a deed "sell" of the shop."""
    return is_tuple_of(thing, 2) and thing[0] == "sell" and is_one_of(thing[1], pieces_in(shop))


def is_deed(shop, thing):
    """Whether it is a deed of the shop, possible or not."""
    return is_building(shop, thing) or is_parting(shop, thing) or is_selling(shop, thing)
