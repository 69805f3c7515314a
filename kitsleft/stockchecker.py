"""The checker of papers that show stocks behind numbers, or that there are none."""

from kitsleft.kinds import is_number, is_one_of, is_tuple_of
from kitsleft.refusals import refuse_paper_unless
from kitsleft.sheetstocks import parts_within, scarce_parts, want_sheets


def is_fit_form(thing):
    """Whether any value is a pair of "fit" and a tuple."""
    return is_tuple_of(thing, 2) and thing[0] == "fit" and isinstance(thing[1], tuple)


def is_none_form(thing):
    """Whether any value is a triple of "none", anything, and a tuple."""
    return is_tuple_of(thing, 3) and thing[0] == "none" and isinstance(thing[2], tuple)


def has_pair_at(pairs, at, name):
    """Whether at this place of the tuple there is a pair of this name and anything."""
    return at < len(pairs) and is_tuple_of(pairs[at], 2) and pairs[at][0] == name


def check_stocks(sheets, stocks):
    """Refuses what are not just the stocks of all parts."""
    parts = parts_within(sheets)
    for at, part in enumerate(parts):
        refuse_paper_unless(has_pair_at(stocks, at, part) and is_number(stocks[at][1]), "stock", at)
    refuse_paper_unless(len(stocks) == len(parts), "more", -1)


def check_fit(sheets, shown, stocks):
    """Refuses stocks that do not give just what is shown."""
    check_stocks(sheets, stocks)
    table = dict(stocks)
    numbers = dict(shown)
    for at, (pack, sheet) in enumerate(sheets):
        refuse_paper_unless(not scarce_parts(sheet, table, numbers[pack]), "less", at)
        refuse_paper_unless(len(scarce_parts(sheet, table, numbers[pack] + 1)) > 0, "fits", at)


def is_cause(sheets, shown, part, enough, thing):
    """Whether any value is a pack of which the number shown wants at least so much of the part."""
    table = dict(sheets)
    if not is_one_of(thing, table):
        return False
    counts = dict(table[thing])
    return part in counts and counts[part] * dict(shown)[thing] >= enough


def check_none(sheets, shown, pack, causes):
    """Refuses causes that do not show that there is one piece more of the pack than is shown."""
    refuse_paper_unless(is_one_of(pack, dict(sheets)), "pack", -1)
    sheet = dict(sheets)[pack]
    for at, (part, count) in enumerate(sheet):
        enough = count * (dict(shown)[pack] + 1)
        fits = has_pair_at(causes, at, part) and is_cause(sheets, shown, part, enough, causes[at][1])
        refuse_paper_unless(fits, "cause", at)
    refuse_paper_unless(len(causes) == len(sheet), "more", -1)


def lets_stocks(sheets, shown, thing):
    """Whether there are stocks behind the numbers, as the paper shows; what is no paper of it is refused."""
    want_sheets(sheets, shown)
    refuse_paper_unless(is_fit_form(thing) or is_none_form(thing), "shape", -1)
    if is_fit_form(thing):
        check_fit(sheets, shown, thing[1])
        return True
    check_none(sheets, shown, thing[1], thing[2])
    return False
