"""Shops as objects."""

from kitsleft.kinds import is_number, is_one_of, is_tuple_of
from kitsleft.pieces import pieces_in, with_number
from kitsleft.refusals import refuse_unless, want_article, want_number
from kitsleft.shopchanges import renamed, with_pack, with_part, without
from kitsleft.shopchecker import lets_shop
from kitsleft.shopparts import articles_of, there_of
from kitsleft.shopreadings import shop_read
from kitsleft.shoptexts import shop_text


def are_goods_of(form, thing):
    """Whether any value is a pair of an article of the shop and a number."""
    return is_tuple_of(thing, 2) and is_one_of(thing[0], pieces_in(form)) and is_number(thing[1])


class Shop:
    """A shop; it never changes."""

    def __init__(self, parts, choices, packs):
        lets_shop((parts, choices, packs))
        self._form = (parts, choices, packs)
        self._articles = articles_of(self._form)

    @staticmethod
    def of(part, *parts, choices=(), packs=()):
        """The shop of these parts, with these choices and packs."""
        return Shop((part, *parts), choices, packs)

    @classmethod
    def read(cls, text):
        """The shop that the text writes."""
        form = shop_read(text)
        # Called on a derived class too it is a Shop.
        return Shop(*form)

    @property
    def stocks(self):
        """The parts."""
        return self._form[0]

    @property
    def eithers(self):
        """The choices."""
        return self._form[1]

    @property
    def packings(self):
        """The packs."""
        return self._form[2]

    @property
    def form(self):
        """The triple of the parts, the choices and the packs."""
        return self._form

    def stocked(self, article, number):
        """The shop in which so many pieces of the article are there."""
        want_article(self._form, article)
        want_number(number)
        form = with_number(self._form, article, number)
        return Shop(*form)

    def offering(self, part, stock):
        """The shop with one more part."""
        form = with_part(self._form, part, stock)
        return Shop(*form)

    def packing(self, pack, made, apart, sheet):
        """The shop with one more pack."""
        form = with_pack(self._form, pack, made, apart, sheet)
        return Shop(*form)

    def dropping(self, name):
        """The shop without the part, choice or pack of this name."""
        form = without(self._form, name)
        return Shop(*form)

    def __call__(self, article):
        """How many pieces of the article are there."""
        return there_of(self._form, article)

    def __getitem__(self, name):
        """The pair or quadruple of this part, choice or pack."""
        table = {row[0]: row for rows in self._form for row in rows}
        refuse_unless(is_one_of(name, table), "name")
        return table[name]

    def __contains__(self, thing):
        return is_one_of(thing, self._articles)

    def __iter__(self):
        return iter(self._articles)

    def __len__(self):
        return len(self._articles)

    def __eq__(self, other):
        return isinstance(other, Shop) and self._form == other._form

    def __str__(self):
        return str(shop_text(self._form))

    def __add__(self, goods):
        refuse_unless(are_goods_of(self._form, goods), "goods")
        article, number = goods
        form = with_number(self._form, article, there_of(self._form, article) + number)
        return Shop(*form)

    def __sub__(self, goods):
        refuse_unless(are_goods_of(self._form, goods), "goods")
        article, number = goods
        there = there_of(self._form, article)
        refuse_unless(number <= there, "goods")
        form = with_number(self._form, article, there - number)
        return Shop(*form)

    def __mod__(self, table):
        form = renamed(self._form, table)
        return Shop(*form)


class Loose(Shop):
    """A shop of parts alone."""

    def __init__(self, parts):
        super().__init__(parts, (), ())

    @property
    def given(self):
        """The parts."""
        return self.stocks


class Sealed(Shop):
    """The shop source, but that no pack can be taken apart."""

    def __init__(self, source):
        refuse_unless(isinstance(source, Shop), "source")
        packs = [(pack, made, False, sheet) for pack, made, _, sheet in source.packings]
        super().__init__(source.stocks, source.eithers, tuple(packs))
        self._source = source

    @property
    def source(self):
        """The shop, as it was handed in."""
        return self._source
