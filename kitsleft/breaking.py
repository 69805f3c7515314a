"""Rows that break: they do not hold, but would with any one piece fewer."""

from kitsleft.alone import alone_row
from kitsleft.nets import row_holds
from kitsleft.refusals import want_sales
from kitsleft.rowtools import row_with


def least_short(shop, sales, article):
    """The row with the least number of the article with which it still does not hold."""
    low, high = -1, dict(sales)[article]
    while high - low > 1:
        middle = (low + high) // 2
        if row_holds(shop, row_with(sales, article, middle)):
            low = middle
        else:
            high = middle
    return row_with(sales, article, high)


def breaking_row(shop, sales):
    """A row that breaks and is at most this one; None if this one holds."""
    want_sales(shop, sales)
    if row_holds(shop, sales):
        return None
    found = sales
    # With fewer pieces of another article a row that holds still does:
    # what was made least for one article stays so.
    for article, _ in sales:
        found = least_short(shop, found, article)
    return found


def is_breaking(shop, sales):
    """Whether the row breaks."""
    want_sales(shop, sales)
    if row_holds(shop, sales):
        return False
    return all([row_holds(shop, row_with(sales, article, number - 1)) for article, number in sales])


def alone_together(shop):
    """Whether the row with alone of each article holds."""
    return row_holds(shop, alone_row(shop))
