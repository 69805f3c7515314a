"""The netting of a row, and what it overasks."""

from kitsleft.pieces import names_in, options_in, packs_in
from kitsleft.rowtools import row_with
from kitsleft.shopparts import outer_order


def net_down(shop, sales):
    """Three tables: the turns of the packs, outermost first, what is asked of each name, what is left of parts."""
    sold = dict(sales)
    asked = dict([(name, sold.get(name, 0)) for name in names_in(shop)])
    packs = packs_in(shop)
    turns = {}
    for pack in outer_order(shop):
        _, made, apart, sheet = packs[pack]
        turn = asked[pack] - made
        if turn < 0 and not apart:
            turn = 0
        turns[pack] = turn
        for name, count in sheet:
            asked[name] = asked[name] + count * turn
    left = {part: stock - asked[part] for part, stock in shop[0]}
    return turns, asked, left


def net_sets(shop, sales):
    """The netting of the row, as three sets of pairs: of the turns, of what is asked of each name, of what is left."""
    turns, asked, left = net_down(shop, sales)
    inner = [row[0] for row in [*shop[0], *shop[1]]]
    wanted = [(name, asked[name]) for name in inner]
    return (tuple(sorted(turns.items())), tuple(sorted(wanted)), tuple(sorted(left.items())))


def sets_of(names):
    """All sets of one or more of the ascending names, the smaller ones first, then as tuples."""
    found = []
    level = [()]
    while level:
        level = [(*some, name) for some in level for name in names if not some or name > some[-1]]
        found.extend(level)
    return found


def open_parts(options, choices):
    """The set of the parts that are an option of one of these choices."""
    return tuple(sorted({part for choice in choices for part in options[choice]}))


def short_of(shop, asked, left):
    """The part, or else the least choices with their parts, of which too much is asked; None if there are none."""
    lacking = [part for part in left if left[part] < 0]
    if lacking:
        return ((), (lacking[0],))
    options = options_in(shop)
    # A choice of which nothing is asked never makes a smallest set.
    for choices in sets_of([choice for choice in options if asked[choice] > 0]):
        parts = open_parts(options, choices)
        if sum([asked[choice] for choice in choices]) > sum([left[part] for part in parts]):
            return (choices, parts)
    return None


def row_holds(shop, sales):
    """Whether the row holds."""
    _, asked, left = net_down(shop, sales)
    return short_of(shop, asked, left) is None


def most_more(shop, sales, article):
    """How many pieces of the article more can be in a row that holds, so that it still does."""
    own = dict(sales).get(article, 0)
    low, high = 0, 1
    while row_holds(shop, row_with(sales, article, own + high)):
        low, high = high, high * 2
    while high - low > 1:
        middle = (low + high) // 2
        if row_holds(shop, row_with(sales, article, own + middle)):
            low = middle
        else:
            high = middle
    return low
