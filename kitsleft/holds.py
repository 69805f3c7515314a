"""Rows that hold, what the others overask, and which parts go to which choices."""

from kitsleft.errors import NotHeld
from kitsleft.gifts import gifts_for
from kitsleft.nets import net_down, row_holds, short_of
from kitsleft.pieces import options_in
from kitsleft.refusals import want_sales


def is_held(shop, sales):
    """Whether the row holds."""
    want_sales(shop, sales)
    return row_holds(shop, sales)


def overasked(shop, sales):
    """The choices and parts of which too much is asked; None if the row holds."""
    want_sales(shop, sales)
    _, asked, left = net_down(shop, sales)
    return short_of(shop, asked, left)


def givings(shop, sales):
    """Triples of a choice, a part, and how many of the part are given to the choice."""
    want_sales(shop, sales)
    _, asked, left = net_down(shop, sales)
    short = short_of(shop, asked, left)
    if short is not None:
        raise NotHeld(short)
    return gifts_for(options_in(shop), asked, left)
