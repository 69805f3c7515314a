"""Stocks told back from the numbers that are shown of packs."""

from kitsleft.sheetstocks import least_stocks, scarce_parts, want_sheets


def greatest_stock(sheets, shown, least, part):
    """The greatest stock that the part can have where the least stocks fit; None if there is none."""
    numbers = dict(shown)
    bounds = []
    for pack, sheet in sheets:
        one_more = numbers[pack] + 1
        # Where no other part is scarce for one piece more, this one has to be.
        if scarce_parts(sheet, least, one_more) == [part]:
            bounds.append(dict(sheet)[part] * one_more - 1)
    return min(bounds, default=None)


def stocks_behind(sheets, shown):
    """The least and the greatest stock of each part in stocks that fit; None if none fit."""
    want_sheets(sheets, shown)
    least = least_stocks(sheets, shown)
    numbers = dict(shown)
    # The least stocks give all that is shown: they fit, if any do, as they give no piece more.
    if not all([scarce_parts(sheet, least, numbers[pack] + 1) for pack, sheet in sheets]):
        return None
    return tuple([(part, least[part], greatest_stock(sheets, shown, least, part)) for part in least])
