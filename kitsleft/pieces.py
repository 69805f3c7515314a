"""A shop as tables by name, and a shop with other pieces in it."""


def stocks_in(shop):
    """The stock of each part."""
    return dict(shop[0])


def options_in(shop):
    """The options of each choice."""
    return dict(shop[1])


def packs_in(shop):
    """Each pack, whole, by its name."""
    return {pack[0]: pack for pack in shop[2]}


def sheets_in(shop):
    """The sheet of each pack."""
    return {pack[0]: pack[3] for pack in shop[2]}


def pieces_in(shop):
    """How many pieces of each article are there."""
    # Stocks of parts and made pieces of packs both stand at index 1.
    return {row[0]: row[1] for row in [*shop[0], *shop[2]]}


def names_in(shop):
    """The names of its parts, its choices and its packs, in this order."""
    return [row[0] for rows in shop for row in rows]


def with_pieces(shop, there):
    """The shop in which so many pieces of each article are there."""
    parts = tuple([(name, there[name]) for name, _ in shop[0]])
    packs = tuple([(name, there[name], apart, sheet) for name, _, apart, sheet in shop[2]])
    return (parts, shop[1], packs)


def with_number(shop, article, number):
    """The shop in which so many pieces of the article are there."""
    there = dict(pieces_in(shop))
    there[article] = number
    return with_pieces(shop, there)
