"""A hand without foresight, which serves sales one by one."""

from kitsleft.errors import NothingToUndo
from kitsleft.kinds import is_one_of, is_shop
from kitsleft.nets import row_holds
from kitsleft.pieces import pieces_in
from kitsleft.refusals import refuse_unless, want_article
from kitsleft.rowtools import row_of_names


def gets(shop, served, article):
    """Whether a hand that served these articles of the shop gets a piece of the article."""
    # Without choices a hand refuses only what would not hold, whichever packs it takes apart.
    return row_holds(shop, row_of_names([*served, article]))


def hand_serves(shop, order):
    """Whether a hand without foresight serves each of these sales, behind those ahead of it."""
    refuse_unless(len(shop[1]) == 0, "shop")
    articles = pieces_in(shop)
    refuse_unless(isinstance(order, tuple) and all([is_one_of(article, articles) for article in order]), "order")
    served = []
    found = []
    for article in order:
        fits = gets(shop, served, article)
        found.append(fits)
        if fits:
            served.append(article)
    return tuple(found)


class Hand:
    """A hand without foresight, with all its sales so far."""

    def __init__(self, shop):
        refuse_unless(is_shop(shop) and len(shop[1]) == 0, "shop")
        self._shop = shop
        # Pairs of an article and whether it was served; and the articles that were.
        self._sales = ()
        self._served = ()

    @property
    def shop_now(self):
        """The shop at the beginning."""
        return self._shop

    @property
    def served_now(self):
        """The row of what was served."""
        return row_of_names(self._served)

    @property
    def refused_now(self):
        """The articles that were refused, in order."""
        return tuple([article for article, fits in self._sales if not fits])

    def sell(self, article):
        """Whether the hand serves this sale, which then counts as served or as refused."""
        fits = self._would_serve(article)
        self._sales = (*self._sales, (article, fits))
        if fits:
            self._served = (*self._served, article)
        return fits

    def undo(self):
        """Takes back the last sale, and returns its article."""
        if len(self._sales) == 0:
            raise NothingToUndo(0)
        article, fits = self._sales[-1]
        self._sales = self._sales[:-1]
        if fits:
            self._served = self._served[:-1]
        return article

    def __call__(self, article):
        """Whether the hand would serve this sale."""
        return self._would_serve(article)

    def _would_serve(self, article):
        want_article(self._shop, article)
        return gets(self._shop, self._served, article)

    def __iadd__(self, article):
        self.sell(article)
        return self

    def __len__(self):
        return len(self._served)

    def __contains__(self, thing):
        return is_one_of(thing, self._served)

    def __iter__(self):
        return iter(self._served)

    def __eq__(self, other):
        return isinstance(other, Hand) and self._shop == other._shop and self._sales == other._sales
