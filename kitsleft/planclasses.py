"""Plans: deeds that are possible one behind the other in a shop."""

from kitsleft.deeds import behind, plan_of
from kitsleft.kinds import is_number
from kitsleft.refusals import refuse_unless
from kitsleft.rowtools import row_of_names


def sold_by(deeds):
    """The articles that these deeds sell, in order."""
    return tuple([deed[1] for deed in deeds if deed[0] == "sell"])


class Plan:
    """A shop, and deeds each of which is possible behind those before it; it never changes."""

    def __init__(self, shop, deeds):
        self._behind = behind(shop, deeds)
        self._shop = shop
        self._deeds = deeds

    @property
    def start_now(self):
        """The shop ahead of all deeds."""
        return self._shop

    @property
    def deeds_now(self):
        """The deeds."""
        return self._deeds

    @property
    def shop_now(self):
        """The shop behind all deeds."""
        return self._behind

    @property
    def sold_now(self):
        """The row that the deeds serve."""
        return row_of_names(sold_by(self._deeds))

    def first(self, many):
        """The plan of the first deeds, so many."""
        return Plan(self._shop, self._first_deeds(many))

    def then(self, other):
        """The plan with the deeds of the other one behind; that one begins where this one ends."""
        refuse_unless(isinstance(other, Plan) and other.start_now == self._behind, "other")
        return Plan(self._shop, (*self._deeds, *other._deeds))

    def _first_deeds(self, many):
        refuse_unless(is_number(many) and many <= len(self._deeds), "many")
        return self._deeds[:many]

    def __call__(self, many):
        """The shop behind the first deeds, so many."""
        return behind(self._shop, self._first_deeds(many))

    def __getitem__(self, k):
        """The deed with this index."""
        refuse_unless(is_number(k) and k < len(self._deeds), "k")
        return self._deeds[k]

    def __contains__(self, thing):
        return thing in self._deeds

    def __iter__(self):
        return iter(self._deeds)

    def __len__(self):
        return len(self._deeds)

    def __eq__(self, other):
        return isinstance(other, Plan) and self._shop == other._shop and self._deeds == other._deeds

    def __add__(self, deed):
        return Plan(self._shop, (*self._deeds, deed))


class Serving(Plan):
    """Deeds that serve a row, in the order in which its articles are named, or in any if none is."""

    def __init__(self, shop, sales, *order):
        wanted = order if len(order) > 0 else None
        super().__init__(shop, plan_of(shop, sales, order=wanted))

    @property
    def order_now(self):
        """The articles, as they are sold."""
        return sold_by(self._deeds)
