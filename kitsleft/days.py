"""Goods that come by days, and orders that are to be delivered by days."""

from kitsleft.kinds import are_rising, is_number, is_one_of, is_positive, is_row, is_tuple_of
from kitsleft.nets import net_down
from kitsleft.pieces import stocks_in
from kitsleft.refusals import refuse_unless
from kitsleft.rowtools import row_plus


def want_no_choices(shop):
    """Refuses a shop with choices."""
    refuse_unless(len(shop[1]) == 0, "shop")


def is_order_of_day(shop, thing):
    """Whether any value is a pair of a day and a row."""
    return is_tuple_of(thing, 2) and is_number(thing[0]) and is_row(shop, thing[1])


def are_orders(shop, thing):
    """Whether any value can be the orders of a schedule."""
    if not isinstance(thing, tuple) or not all([is_order_of_day(shop, order) for order in thing]):
        return False
    return are_rising([order[0] for order in thing])


def is_coming(stocks, thing):
    """Whether any value is a triple of a day, a part and a number of pieces."""
    return is_tuple_of(thing, 3) and is_number(thing[0]) and is_one_of(thing[1], stocks) and is_positive(thing[2])


def are_goods(shop, thing):
    """Whether any value can be the goods of a schedule."""
    stocks = stocks_in(shop)
    if not isinstance(thing, tuple) or not all([is_coming(stocks, coming) for coming in thing]):
        return False
    return are_rising([(day, part) for day, part, _ in thing])


def want_schedule(shop, orders, goods):
    """Refuses a shop with choices, and what are no orders or goods of it."""
    want_no_choices(shop)
    refuse_unless(are_orders(shop, orders), "orders")
    refuse_unless(are_goods(shop, goods), "goods")


def come_by(goods, day, part):
    """How many pieces of the part come up to the day."""
    return sum([number for when, which, number in goods if when <= day and which == part])


def left_by_days(shop, orders, goods):
    """For each day of an order the day, and what is left of each part behind all orders up to it."""
    found = []
    sales = ()
    for day, more in orders:
        sales = row_plus(sales, more)
        # Goods change no turn: they are left beside what the shop has.
        _, _, left = net_down(shop, sales)
        found.append((day, {part: left[part] + come_by(goods, day, part) for part in left}))
    return found


def late_day(shop, orders, goods):
    """The first day of an order up to which the orders cannot be delivered; None if there is none."""
    late = [day for day, left in left_by_days(shop, orders, goods) if min([left[part] for part in left]) < 0]
    return late[0] if late else None


def is_schedule(shop, thing):
    """Whether any value is a schedule of the shop."""
    want_no_choices(shop)
    return is_tuple_of(thing, 2) and are_orders(shop, thing[0]) and are_goods(shop, thing[1])


def can_deliver(shop, orders, goods):
    """Whether the orders can be delivered."""
    want_schedule(shop, orders, goods)
    return late_day(shop, orders, goods) is None


def first_late(shop, orders, goods):
    """The first day of an order up to which the orders cannot be delivered; None if there is none."""
    want_schedule(shop, orders, goods)
    return late_day(shop, orders, goods)


def lacking_goods(shop, orders, goods):
    """The least goods that have to come too, as late as they can."""
    want_schedule(shop, orders, goods)
    lacking = []
    come = {}
    for day, left in left_by_days(shop, orders, goods):
        for part in left:
            number = -left[part] - come.get(part, 0)
            if number > 0:
                lacking.append((day, part, number))
                come[part] = -left[part]
    return tuple(lacking)
