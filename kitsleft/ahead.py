"""Building ahead, and taking apart again: what it changes."""

from kitsleft.errors import NotPossible
from kitsleft.kinds import is_one_of
from kitsleft.nets import most_more, row_holds
from kitsleft.pieces import options_in, packs_in, pieces_in, with_pieces
from kitsleft.refusals import refuse_unless, want_number, want_sales


def is_plain(shop, pack):
    """Whether it is a pack whose sheet names no choice."""
    packs = packs_in(shop)
    if not is_one_of(pack, packs):
        return False
    choices = options_in(shop)
    return not any([name in choices for name, _ in packs[pack][3]])


def turned(shop, pack, number):
    """The shop with so many pieces of the pack built more, or, below 0, taken apart."""
    there = dict(pieces_in(shop))
    there[pack] = there[pack] + number
    for name, count in packs_in(shop)[pack][3]:
        there[name] = there[name] - count * number
    return with_pieces(shop, there)


def built(shop, pack, number):
    """The shop behind so many buildings of a pack without choices."""
    there = pieces_in(shop)
    most = min([there[name] // count for name, count in packs_in(shop)[pack][3]])
    if number > most:
        raise NotPossible(most)
    return turned(shop, pack, number)


def built_ahead(shop, pack, number):
    """The shop behind so many deeds "build" of the pack."""
    refuse_unless(is_plain(shop, pack), "pack")
    want_number(number)
    return built(shop, pack, number)


def parted(shop, pack, number):
    """The shop behind so many deeds "apart" of the pack."""
    packs = packs_in(shop)
    refuse_unless(is_one_of(pack, packs) and packs[pack][2], "pack")
    want_number(number)
    made = packs[pack][1]
    if number > made:
        raise NotPossible(made)
    return turned(shop, pack, -number)


def holds_behind(shop, pack, number, sales):
    """Whether the row holds in the shop behind so many deeds "build" of the pack."""
    refuse_unless(is_plain(shop, pack), "pack")
    want_number(number)
    want_sales(shop, sales)
    return row_holds(built(shop, pack, number), sales)


def lost_row(shop, pack, number):
    """A row that holds in the shop, but not behind so many deeds "build" of the pack; None if there is none."""
    built_ahead(shop, pack, number)
    _, _, apart, sheet = packs_in(shop)[pack]
    if apart or number == 0:
        return None
    # The pieces in a rigid pack are gone for all other uses: as many as
    # there could be of what its sheet names is more than there can be then.
    article = sheet[0][0]
    return ((article, most_more(shop, (), article)),)
