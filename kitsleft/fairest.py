"""The fairest row: the one in which the least share is greatest, and so on."""

from kitsleft.kinds import is_integer, is_tuple_of
from kitsleft.refusals import refuse_unless
from kitsleft.rows import greatest_rows, want_names

GREATEST_WEIGHT = 60


def is_weight(thing):
    """Whether any value is an integer from 1 to sixty."""
    return is_integer(thing) and 1 <= thing <= GREATEST_WEIGHT


def numbers_in(names, sales):
    """The numbers of the names in the row, in their order."""
    numbers = dict(sales)
    return tuple([numbers.get(name, 0) for name in names])


def shares_of(numbers, weights):
    """The shares, ascending, all times the product of the weights: so they are exact."""
    whole = 1
    for weight in weights:
        whole = whole * weight
    return tuple(sorted([number * (whole // weight) for number, weight in zip(numbers, weights)]))


def fairest_row(shop, names, weights):
    """The row of these articles that holds and has the greatest shares, the least ones first."""
    want_names(shop, names)
    refuse_unless(is_tuple_of(weights, len(names)) and all([is_weight(weight) for weight in weights]), "weights")
    # One piece more of an article makes the shares greater: the fairest row is a greatest one.
    ranked = []
    for sales in greatest_rows(shop, names):
        numbers = numbers_in(names, sales)
        ranked.append((shares_of(numbers, weights), numbers, sales))
    return max(ranked)[2]
