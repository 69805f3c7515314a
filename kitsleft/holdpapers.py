"""Papers that show that a row holds, or that it does not."""

from kitsleft.gifts import gifts_for
from kitsleft.nets import net_down, short_of
from kitsleft.pieces import names_in, options_in, packs_in
from kitsleft.refusals import want_sales


def prices_against(shop, turns, choices, parts):
    """Prices with which a row that overasks these parts is worth more than all that is there; turns are its own."""
    prices = dict([(name, 0) for name in names_in(shop)])
    for name in [*choices, *parts]:
        prices[name] = 1
    packs = packs_in(shop)
    # Innermost first: a pack is worth what is in it, unless it is rigid and enough of it is made up.
    for pack in reversed(list(turns)):
        _, _, apart, sheet = packs[pack]
        if apart or turns[pack] > 0:
            prices[pack] = sum([count * prices[name] for name, count in sheet])
    return tuple(sorted(prices.items()))


def hold_paper(shop, sales):
    """A paper that the row holds, or that it does not."""
    want_sales(shop, sales)
    turns, asked, left = net_down(shop, sales)
    short = short_of(shop, asked, left)
    if short is None:
        return ("held", tuple(sorted(turns.items())), gifts_for(options_in(shop), asked, left))
    choices, parts = short
    return ("short", prices_against(shop, turns, choices, parts))
