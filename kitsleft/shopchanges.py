"""Shops with another value, with one part, choice or pack more or less, or with other names."""

from kitsleft.kinds import are_rising, is_choice, is_name, is_number, is_one_of, is_shop, is_tuple_of
from kitsleft.pieces import names_in, packs_in, stocks_in
from kitsleft.refusals import refuse_unless, want_choice, want_pack, want_part


def rows_with(rows, row):
    """The rows, ascending by name, with this one instead of that of its name, or besides."""
    others = [other for other in rows if other[0] != row[0]]
    return tuple(sorted([*others, row]))


def shop_with_part(shop, part, stock):
    """The shop in which this part has this stock."""
    return (rows_with(shop[0], (part, stock)), shop[1], shop[2])


def shop_with_choice(shop, choice, options):
    """The shop in which this choice has these options."""
    return (shop[0], rows_with(shop[1], (choice, options)), shop[2])


def shop_with_pack(shop, pack, made, apart, sheet):
    """The shop, or a triple that is none, in which this pack has these values."""
    return (shop[0], shop[1], rows_with(shop[2], (pack, made, apart, sheet)))


def want_stock(stock):
    """Refuses what is no number."""
    refuse_unless(is_number(stock), "stock")


def want_made(made):
    """Refuses what is no number."""
    refuse_unless(is_number(made), "made")


def want_options(shop, choice, options):
    """Refuses what cannot be the options of the choice."""
    refuse_unless(is_choice((choice, options), stocks_in(shop)), "options")


def want_fresh(shop, thing, word):
    """Refuses what is no name, or one that the shop has; it is the parameter called word."""
    refuse_unless(is_name(thing) and thing not in names_in(shop), word)


def shop_or_refusal(thing, word):
    """The triple if it is a shop; else the parameter called word is refused."""
    refuse_unless(is_shop(thing), word)
    return thing


def with_stock(shop, part, stock):
    """The shop with this stock of the part."""
    want_part(shop, part)
    want_stock(stock)
    return shop_with_part(shop, part, stock)


def with_made(shop, pack, made):
    """The shop with so many made up pieces of the pack."""
    want_pack(shop, pack)
    want_made(made)
    _, _, apart, sheet = packs_in(shop)[pack]
    return shop_with_pack(shop, pack, made, apart, sheet)


def with_apart(shop, pack, apart):
    """The shop in which the pack can be taken apart, or cannot."""
    want_pack(shop, pack)
    _, made, _, sheet = packs_in(shop)[pack]
    return shop_or_refusal(shop_with_pack(shop, pack, made, apart, sheet), "apart")


def with_options(shop, choice, options):
    """The shop with these options of the choice."""
    want_choice(shop, choice)
    want_options(shop, choice, options)
    return shop_with_choice(shop, choice, options)


def with_sheet(shop, pack, sheet):
    """The shop with this sheet of the pack."""
    want_pack(shop, pack)
    _, made, apart, _ = packs_in(shop)[pack]
    return shop_or_refusal(shop_with_pack(shop, pack, made, apart, sheet), "sheet")


def with_part(shop, part, stock):
    """The shop with one more part."""
    want_fresh(shop, part, "part")
    want_stock(stock)
    return shop_with_part(shop, part, stock)


def with_choice(shop, choice, options):
    """The shop with one more choice."""
    want_fresh(shop, choice, "choice")
    want_options(shop, choice, options)
    return shop_with_choice(shop, choice, options)


def with_pack(shop, pack, made, apart, sheet):
    """The shop with one more pack."""
    want_fresh(shop, pack, "pack")
    want_made(made)
    refuse_unless(isinstance(apart, bool), "apart")
    return shop_or_refusal(shop_with_pack(shop, pack, made, apart, sheet), "sheet")


def is_named_within(shop, name):
    """Whether options or a sheet name it."""
    in_options = any([name in options for _, options in shop[1]])
    return in_options or any([name in dict(sheet) for _, _, _, sheet in shop[2]])


def without(shop, name):
    """The shop without the part, choice or pack of this name."""
    refuse_unless(is_one_of(name, names_in(shop)) and not is_named_within(shop, name), "name")
    parts, choices, packs = [tuple([row for row in rows if row[0] != name]) for rows in shop]
    refuse_unless(len(parts) > 0, "name")
    return (parts, choices, packs)


def is_naming(names, thing):
    """Whether any value is a pair of one of these names and any name."""
    return is_tuple_of(thing, 2) and is_one_of(thing[0], names) and is_name(thing[1])


def is_table(names, thing):
    """Whether any value is a set of pairs of one of these names, each another one, and any name."""
    if not isinstance(thing, tuple) or not all([is_naming(names, pair) for pair in thing]):
        return False
    return are_rising([old for old, _ in thing])


def renamed(shop, table):
    """The shop in which the old names of the table are the new ones, everywhere."""
    names = names_in(shop)
    refuse_unless(is_table(names, table), "table")
    changes = dict(table)
    fresh = {name: changes.get(name, name) for name in names}
    refuse_unless(len(set(list(fresh.values()))) == len(names), "table")
    parts = [(fresh[part], stock) for part, stock in shop[0]]
    choices = [(fresh[choice], tuple(sorted([fresh[part] for part in options]))) for choice, options in shop[1]]
    packs = []
    for pack, made, apart, sheet in shop[2]:
        inside = sorted([(fresh[name], count) for name, count in sheet])
        packs.append((fresh[pack], made, apart, tuple(inside)))
    return (tuple(sorted(parts)), tuple(sorted(choices)), tuple(sorted(packs)))
