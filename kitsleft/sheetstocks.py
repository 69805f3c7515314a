"""What stocks give of packs that are told by their sheets alone."""

from kitsleft.kinds import is_counted_name, is_name, is_number, is_tuple_of, rise_by_name
from kitsleft.refusals import refuse_unless


def is_sheet(thing):
    """Whether any value is a nonempty tuple of counted parts, ascending by name."""
    if not isinstance(thing, tuple) or len(thing) == 0 or not all([is_counted_name(pair) for pair in thing]):
        return False
    return rise_by_name(thing)


def is_named_sheet(thing):
    """Whether any value is a pair of a name and a sheet."""
    return is_tuple_of(thing, 2) and is_name(thing[0]) and is_sheet(thing[1])


def are_sheets(thing):
    """Whether any value is a nonempty tuple of named sheets, ascending, which name no pack among the parts."""
    if not isinstance(thing, tuple) or len(thing) == 0 or not all([is_named_sheet(pair) for pair in thing]):
        return False
    parts = parts_within(thing)
    return rise_by_name(thing) and not any([pack in parts for pack, _ in thing])


def are_shown(sheets, thing):
    """Whether any value has a number for each pack of the sheets, in their order."""
    if not is_tuple_of(thing, len(sheets)) or not all([is_tuple_of(pair, 2) for pair in thing]):
        return False
    return all([pair[0] == pack and is_number(pair[1]) for pair, (pack, _) in zip(thing, sheets)])


def want_sheets(sheets, shown):
    """Refuses what are no sheets, or no numbers shown of them."""
    refuse_unless(are_sheets(sheets), "sheets")
    refuse_unless(are_shown(sheets, shown), "shown")


def parts_within(sheets):
    """The parts that the sheets name, ascending."""
    return sorted({part for _, sheet in sheets for part, _ in sheet})


def least_stocks(sheets, shown):
    """The least stock of each part with which there is enough for each number shown by itself."""
    numbers = dict(shown)
    wants = [(part, count * numbers[pack]) for pack, sheet in sheets for part, count in sheet]
    return {part: max([number for other, number in wants if other == part]) for part in parts_within(sheets)}


def scarce_parts(sheet, stocks, number):
    """The parts of the sheet of which these stocks are not enough for so many pieces of the pack."""
    return [part for part, count in sheet if stocks[part] < count * number]
