"""Rows: the numbers in them, their sums, and which is at most which."""

from kitsleft.kinds import is_row
from kitsleft.refusals import refuse_unless, want_article, want_sales
from kitsleft.rowtools import row_plus


def number_in(shop, sales, article):
    """The number of the article in the row."""
    want_sales(shop, sales)
    want_article(shop, article)
    return dict(sales).get(article, 0)


def row_sum(shop, sales, late):
    """The sum of two rows."""
    want_sales(shop, sales)
    refuse_unless(is_row(shop, late), "late")
    return row_plus(sales, late)


def is_at_most(shop, sales, late):
    """Whether no number of sales is above that of late."""
    want_sales(shop, sales)
    refuse_unless(is_row(shop, late), "late")
    most = dict(late)
    return all([number <= most.get(article, 0) for article, number in sales])
