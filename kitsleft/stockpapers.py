"""Papers that show stocks behind numbers, or that there are none."""

from kitsleft.sheetstocks import least_stocks, scarce_parts, want_sheets


def cause_of(sheets, shown, part):
    """The first pack of which the number shown wants most of the part."""
    numbers = dict(shown)
    wants = [(pack, dict(sheet)[part] * numbers[pack]) for pack, sheet in sheets if part in dict(sheet)]
    most = max([number for _, number in wants])
    return [pack for pack, number in wants if number == most][0]


def stock_paper(sheets, shown):
    """A paper with stocks that fit, or with a pack of which there is always one piece more than is shown."""
    want_sheets(sheets, shown)
    least = least_stocks(sheets, shown)
    numbers = dict(shown)
    for pack, sheet in sheets:
        if not scarce_parts(sheet, least, numbers[pack] + 1):
            return ("none", pack, tuple([(part, cause_of(sheets, shown, part)) for part, _ in sheet]))
    return ("fit", tuple(least.items()))
