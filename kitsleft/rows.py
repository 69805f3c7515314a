"""Greatest rows: those that hold, and do with no piece more."""

from kitsleft.kinds import is_names, is_one_of
from kitsleft.nets import most_more, row_holds
from kitsleft.pieces import pieces_in
from kitsleft.refusals import refuse_unless, want_sales
from kitsleft.rowtools import row_of, row_with


def want_names(shop, names):
    """Refuses what is no nonempty set of articles."""
    articles = pieces_in(shop)
    fits = is_names(names) and len(names) > 0 and all([is_one_of(name, articles) for name in names])
    refuse_unless(fits, "names")


def row_of_numbers(names, numbers):
    """The row with these numbers of the names, in their order; of further names there are none in it."""
    return row_of({name: number for name, number in zip(names, numbers)})


def longer_by_one(shop, names, numbers):
    """These numbers of the first names, with each one that the next name can have beside them."""
    most = most_more(shop, row_of_numbers(names, numbers), names[len(numbers)])
    return [(*numbers, number) for number in range(most + 1)]


def tops_of(shop, names):
    """For all numbers that all names but the last can have: the greatest one that the last has beside them."""
    beginnings = [()]
    for _ in names[:-1]:
        beginnings = [longer for numbers in beginnings for longer in longer_by_one(shop, names, numbers)]
    return {numbers: most_more(shop, row_of_numbers(names, numbers), names[-1]) for numbers in beginnings}


def is_top(tops, numbers):
    """Whether the last name has a smaller greatest number, or none, with one piece more of any other name."""
    more = [(*numbers[:at], number + 1, *numbers[at + 1:]) for at, number in enumerate(numbers)]
    return all([tops.get(other, -1) < tops[numbers] for other in more])


def greatest_rows(shop, names):
    """The set of the rows of these articles that hold and are at most no other one that does."""
    want_names(shop, names)
    tops = tops_of(shop, names)
    found = [row_of_numbers(names, (*numbers, tops[numbers])) for numbers in tops if is_top(tops, numbers)]
    return tuple(sorted(found))


def count_rows(shop, names):
    """How many rows of these articles hold."""
    want_names(shop, names)
    tops = tops_of(shop, names)
    return sum([tops[numbers] + 1 for numbers in tops])


def row_above(shop, names, sales):
    """A greatest row of these articles that sales is at most; None if there is none."""
    want_names(shop, names)
    want_sales(shop, sales)
    if not row_holds(shop, sales) or not all([article in names for article, _ in sales]):
        return None
    found = sales
    # What is made greatest for one article stays so beside more of the others.
    for name in names:
        own = dict(found).get(name, 0)
        found = row_with(found, name, own + most_more(shop, found, name))
    return found
