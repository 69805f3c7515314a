"""The netting of a row: what is built and taken apart for it, what is asked, and what is left."""

from kitsleft.nets import net_sets
from kitsleft.refusals import want_sales


def netted(shop, sales):
    """Three sets of pairs: the turn of each pack, what is asked of each part and choice, what is left of each part."""
    want_sales(shop, sales)
    return net_sets(shop, sales)
