"""Flat shops: packs told by the parts and choices that they are made of in the end."""

from kitsleft.nets import most_more, row_holds
from kitsleft.pieces import packs_in, sheets_in
from kitsleft.rowtools import row_of, row_with
from kitsleft.shopparts import inside_of, outer_order


def is_flat(shop):
    """Whether no sheet names a pack."""
    packs = packs_in(shop)
    return not any([name in packs for pack in packs for name, _ in packs[pack][3]])


def is_soft(shop, pack):
    """Whether the pack and all packs that it contains can be taken apart."""
    inside = inside_of(shop, pack)
    packs = packs_in(shop)
    return all([packs[name][2] for name in [pack, *inside] if name in packs])


def flat_sheets(shop):
    """The flat sheet of each pack."""
    sheets = sheets_in(shop)
    flat = {}
    for pack in reversed(list(outer_order(shop))):
        counts = {}
        for name, count in sheets[pack]:
            for inner, many in flat.get(name, ((name, 1),)):
                counts[inner] = counts.get(inner, 0) + count * many
        flat[pack] = row_of(counts)
    return flat


def flattened(shop):
    """The shop with flat sheets instead."""
    sheets = flat_sheets(shop)
    packs = [(pack, made, is_soft(shop, pack), sheets[pack]) for pack, made, _, _ in shop[2]]
    return (shop[0], shop[1], tuple(packs))


def filled(shop, sales):
    """The row with as many more of each part in turn as can be."""
    found = sales
    for part, _ in shop[0]:
        own = dict(found).get(part, 0)
        found = row_with(found, part, own + most_more(shop, found, part))
    return found


def same_flat(shop):
    """Whether the same rows hold in the shop and in the flat one."""
    return flat_row(shop) is None


def flat_row(shop):
    """A row that holds in the shop, but not in the flat one; None if there is none."""
    flat = flattened(shop)
    # If the flat shop wants more parts for any row, it does for nothing at all, or for the
    # first piece of a pack that is built. It lacks them once all that is left is in the row.
    starts = [(), *[((pack, made + 1),) for pack, made, _, _ in shop[2]]]
    for start in starts:
        if row_holds(shop, start):
            full = filled(shop, start)
            if not row_holds(flat, full):
                return full
    return None
