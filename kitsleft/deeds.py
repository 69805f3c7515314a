"""Deeds: which are possible, what is there behind them, and plans that serve a row."""

from kitsleft.errors import NotPossible
from kitsleft.holds import givings
from kitsleft.kinds import is_deed
from kitsleft.nets import net_down
from kitsleft.pieces import options_in, pieces_in, sheets_in, with_pieces
from kitsleft.refusals import refuse_unless, want_sales
from kitsleft.rowtools import row_of_names


def changes_of(shop, deed):
    """Pairs of an article and a number, below 0 too, of pieces that are there more behind the deed of the shop."""
    if deed[0] == "sell":
        return [(deed[1], -1)]
    sheet = sheets_in(shop)[deed[1]]
    if deed[0] == "apart":
        return [(deed[1], -1), *sheet]
    choices = options_in(shop)
    taken = [(part, -1) for take in deed[2] for part in take]
    used = [(name, -count) for name, count in sheet if name not in choices]
    return [(deed[1], 1), *taken, *used]


def there_after(shop, there, deed):
    """How many pieces are there behind any value, if it is a deed that is possible; else None."""
    if not is_deed(shop, deed):
        return None
    later = dict(there)
    for article, change in changes_of(shop, deed):
        later[article] = later[article] + change
    if min([later[article] for article in later]) < 0:
        return None
    return later


def is_possible(shop, deed):
    """Whether any value is a deed that is possible in the shop."""
    return there_after(shop, pieces_in(shop), deed) is not None


def behind(shop, deeds):
    """The shop behind the deeds."""
    refuse_unless(isinstance(deeds, tuple), "deeds")
    there = pieces_in(shop)
    for at, deed in enumerate(deeds):
        there = there_after(shop, there, deed)
        if there is None:
            raise NotPossible(at)
    return with_pieces(shop, there)


def serves(shop, deeds, sales):
    """Whether the deeds are possible, and sell just the row."""
    refuse_unless(isinstance(deeds, tuple), "deeds")
    want_sales(shop, sales)
    there = pieces_in(shop)
    for deed in deeds:
        there = there_after(shop, there, deed)
        if there is None:
            return False
    return row_of_names([deed[1] for deed in deeds if deed[0] == "sell"]) == sales


def is_order(sales, thing):
    """Whether any value is a tuple in which each article of the row stands as often as its number tells."""
    if not isinstance(thing, tuple) or not all([isinstance(name, str) for name in thing]):
        return False
    return row_of_names(thing) == sales


def buildings(shop, turns, given):
    """The deeds "build" of these turns, innermost packs first, with what is given to the choices."""
    sheets = sheets_in(shop)
    pools = {}
    for choice, part, number in given:
        pools[choice] = pools.get(choice, []) + [part] * number
    used = {}
    deeds = []
    for pack in reversed(list(turns)):
        for _ in range(turns[pack]):
            takes = []
            for name, count in sheets[pack]:
                start = used.get(name, 0)
                # Parts and packs have no pool: of them the take is empty.
                takes.append(tuple(pools.get(name, [])[start:start + count]))
                used[name] = start + count
            deeds.append(("build", pack, tuple(takes)))
    return deeds


def plan_of(shop, sales, *, order=None):
    """Deeds that serve the row in this order."""
    want_sales(shop, sales)
    refuse_unless(order is None or is_order(sales, order), "order")
    given = givings(shop, sales)
    turns, _, _ = net_down(shop, sales)
    # Outermost first: what comes out of an outer pack can come apart, too.
    parted = [("apart", pack) for pack in turns for _ in range(-turns[pack])]
    built = buildings(shop, turns, given)
    articles = [article for article, number in sales for _ in range(number)] if order is None else order
    sold = [("sell", article) for article in articles]
    return tuple([*parted, *built, *sold])
