"""The number that an article can have alone, and beside others."""

from kitsleft.nets import most_more, row_holds
from kitsleft.pieces import pieces_in
from kitsleft.refusals import refuse_unless, want_article, want_sales
from kitsleft.rowtools import row_of, row_with


def alone_of(shop, article):
    """The greatest number with which the article holds in a row by itself."""
    want_article(shop, article)
    return most_more(shop, (), article)


def alone_row(shop):
    """The row with alone of each article."""
    return row_of({article: most_more(shop, (), article) for article in pieces_in(shop)})


def are_true_alone(shop, sales):
    """Whether each number of the row is at most alone of its article."""
    want_sales(shop, sales)
    return all([row_holds(shop, (pair,)) for pair in sales])


def room_beside(shop, sales, article):
    """How many pieces of the article more the row can have; None if it does not hold."""
    if not row_holds(shop, sales):
        return None
    return most_more(shop, sales, article)


def beside(shop, sales, article):
    """How many pieces of the article more the row can have; None if it does not hold."""
    want_sales(shop, sales)
    want_article(shop, article)
    return room_beside(shop, sales, article)


def besides(shop, sales, less, article):
    """What beside returns with 0, 1, 2 and so on pieces of the article less fewer in the row."""
    want_sales(shop, sales)
    numbers = dict(sales)
    refuse_unless(isinstance(less, str) and less in numbers, "less")
    want_article(shop, article)
    own = numbers[less]
    return tuple([room_beside(shop, row_with(sales, less, own - fewer), article) for fewer in range(own + 1)])
