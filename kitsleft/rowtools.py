"""Puts rows together from tables of numbers."""


def row_of(numbers):
    """The row of a table of numbers by article: those that are above 0."""
    return tuple([(article, numbers[article]) for article in sorted(numbers) if numbers[article] > 0])


def row_with(sales, article, number):
    """The row in which the article has this number instead."""
    numbers = dict(sales)
    numbers[article] = number
    return row_of(numbers)


def row_plus(sales, late):
    """The sum of two rows."""
    early, later = dict(sales), dict(late)
    return row_of({name: early.get(name, 0) + later.get(name, 0) for name in [*early, *later]})


def row_of_names(names):
    """The row in which each article has the number of times that it is named."""
    numbers = {}
    for name in names:
        numbers[name] = numbers.get(name, 0) + 1
    return row_of(numbers)
