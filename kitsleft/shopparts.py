"""What a shop consists of, and how its packs lie within each other."""

from kitsleft.kinds import is_one_of
from kitsleft.pieces import names_in, options_in, packs_in, pieces_in, sheets_in, stocks_in
from kitsleft.refusals import refuse_unless, want_article, want_choice, want_pack, want_part


def parts_of(shop):
    """The set of the names of its parts."""
    return tuple([part[0] for part in shop[0]])


def choices_of(shop):
    """The set of the names of its choices."""
    return tuple([choice[0] for choice in shop[1]])


def packs_of(shop):
    """The set of the names of its packs."""
    return tuple([pack[0] for pack in shop[2]])


def articles_of(shop):
    """The set of the names of its parts and packs."""
    return tuple(sorted(pieces_in(shop)))


def stock_of(shop, part):
    """The stock of the part."""
    want_part(shop, part)
    return stocks_in(shop)[part]


def options_of(shop, choice):
    """The options of the choice."""
    want_choice(shop, choice)
    return options_in(shop)[choice]


def made_of(shop, pack):
    """How many pieces of the pack are made up."""
    want_pack(shop, pack)
    return packs_in(shop)[pack][1]


def can_part(shop, pack):
    """Whether made up pieces of the pack can be taken apart."""
    want_pack(shop, pack)
    return packs_in(shop)[pack][2]


def sheet_of(shop, pack):
    """What a piece of the pack is made of."""
    want_pack(shop, pack)
    return sheets_in(shop)[pack]


def there_of(shop, article):
    """How many pieces of the article are there."""
    want_article(shop, article)
    return pieces_in(shop)[article]


def namers_of(shop, name):
    """The set of the packs whose sheets name it."""
    refuse_unless(is_one_of(name, names_in(shop)), "name")
    sheets = sheets_in(shop)
    return tuple([pack for pack in sheets if name in dict(sheets[pack])])


def inside_of(shop, pack):
    """The set of the names of all that the pack contains."""
    want_pack(shop, pack)
    sheets = sheets_in(shop)
    inside = {}
    waiting = [pack]
    while waiting:
        outer = waiting.pop()
        for name, _ in sheets[outer]:
            if name in sheets and name not in inside:
                waiting.append(name)
            inside[name] = True
    return tuple(sorted(inside))


def first_free(sheets, left):
    """The first of the packs that are left that no other one of these names."""
    named = {name: True for pack in left for name, _ in sheets[pack]}
    return [pack for pack in left if pack not in named][0]


def outer_order(shop):
    """The packs, each behind all packs whose sheets name it, else by name."""
    sheets = sheets_in(shop)
    left = list(sheets)
    order = []
    while left:
        first = first_free(sheets, left)
        order.append(first)
        left = [pack for pack in left if pack != first]
    return tuple(order)
