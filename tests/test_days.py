"""Days: [54] to [56], with [8] and the guarantees [9]."""

import random
import unittest
from itertools import permutations

from kitsleft.days import can_deliver, first_late, is_schedule, lacking_goods

from tests.cases import Case
from tests.oracle import behind_sales, hand_gets, holds, netting, pieces, plus, row
from tests.samples import DEEP, NOTHINGS, PACKS, PARTS, SHOP, STIFF, some_rows, some_shops

OPEN = (PARTS, (), (PACKS[1],))
ORDERS = ((0, (('trio', 3),)), (2, (('plug', 2),)))
SHOPS = some_shops(60, 24, choices=0, packs=4, stock=3)
TINY = some_shops(40, 25, parts=2, choices=0, packs=2, stock=1, made=1)


def some_schedules(shop, many, seed, most=2, days=6, orders=4, goods=5):
    """So many schedules of the shop, each time the same ones."""
    rng = random.Random(seed)
    rows = some_rows(shop, many * orders, seed, most=most)
    parts = [name for name, _ in shop[0]]
    found = []
    for at in range(many):
        on = sorted(rng.sample(range(days), rng.randint(0, orders)))
        some = rng.sample([(day, part) for day in range(days) for part in parts], rng.randint(0, goods))
        found.append((tuple(zip(on, rows[at * orders:])), tuple((day, part, rng.randint(1, 3)) for day,
                                                                part in sorted(some))))
    return found


def shop_by(shop, goods, day):
    """The shop with the goods up to the day."""
    come = {name: sum(number for when, part, number in goods if part == name and when <= day) for name, _ in shop[0]}
    return (tuple((name, stock + come[name]) for name, stock in shop[0]),) + shop[1:]


def sums_by(orders):
    """Pairs of each day of an order and the sum of the sales up to it."""
    sales, found = (), []
    for day, more in orders:
        for article, number in more:
            sales = plus(sales, article, number)
        found.append((day, sales))
    return found


def late_days(shop, orders, goods):
    return [day for day, sales in sums_by(orders) if not holds(shop_by(shop, goods, day), sales)]


def with_goods(goods, day, part, number):
    """The goods with so many pieces more, or fewer."""
    numbers = {(when, which): many for when, which, many in goods}
    numbers[day, part] = numbers.get((day, part), 0) + number
    return tuple(sorted(key + (many,) for key, many in numbers.items() if many > 0))


class Schedules(Case):

    def test_schedules(self):
        for thing in (((), ()), (ORDERS, ()), ((), ((0, 'lamp', 1),)), (((0, ()),), ()),
                      (((10 ** 59, (('lamp', 1),)),), ()),
                      (((0, ()), (1, ()), (7, (('lamp', 1), ('trio', 2)))),
                       ((0, 'bulb', 9), (0, 'lamp', 1), (1, 'bulb', 1))),
                      ((), ((3, 'plug', 10 ** 59), (4, 'candle', 1)))):
            self.gives(is_schedule(OPEN, thing), True)
            self.gives(can_deliver(OPEN, thing[0], thing[1]) in (True, False), True)

    BAD_ORDERS = NOTHINGS[:9] + (
        None, True, 0, '', [], [(0, ())], (0, ()), ((0,),), ((0, (), ()),), ([0, ()],), ((-1, ()),), ((True, ()),),
        ((None, ()),),
        (('0', ()),), (([], ()),), ((0, None),), ((0, []),), ((0, (('lamp', 0),)),), ((0, (('lamp', True),)),),
        ((0, (('box', 1),)),),
        ((0, (('plug', 1), ('lamp', 1))),), ((0, ()), (0, ())), ((1, ()), (0, ())), ((0, ()), (2, ()), (1, ())),
        ((0, ()), None),
        ((0, [('lamp', 1)]),), ((0, 'lamp'),), ((0, ('lamp', 1)),))
    BAD_GOODS = NOTHINGS[:9] + (
        None, True, 0, '', [], [(0, 'lamp', 1)], (0, 'lamp', 1), ((0, 'lamp'),), ((0, 'lamp', 1, 1),),
        ([0, 'lamp', 1],),
        ((-1, 'lamp', 1),), ((True, 'lamp', 1),), ((None, 'lamp', 1),), (('0', 'lamp', 1),), (([], 'lamp', 1),),
        ((0, 'trio', 1),),
        ((0, 'box', 1),), ((0, 'nosuch', 1),), ((0, None, 1),), ((0, ['lamp'], 1),), ((0, (), 1),), ((0, 'lamp', 0),),
        ((0, 'lamp', -1),), ((0, 'lamp', True),), ((0, 'lamp', None),), ((0, 'lamp', '1'),),
        ((0, 'lamp', 1), (0, 'lamp', 1)),
        ((0, 'lamp', 1), (0, 'lamp', 2)), ((0, 'lamp', 1), (0, 'bulb', 1)), ((1, 'bulb', 1), (0, 'lamp', 1)),
        ((0, 'lamp', 1), None),
        ((0, 'bulb', 1), (2, 'bulb', 1), (1, 'bulb', 1)))

    def test_no_schedules(self):
        for thing in NOTHINGS + ((), ((),), ((), (), ()), [(), ()], (None, None), 0, ORDERS + ((),)):
            self.gives(is_schedule(OPEN, thing), False)
        for wrong in self.BAD_ORDERS:
            self.gives([is_schedule(OPEN, (wrong, ())), is_schedule(OPEN, (wrong, None))], [False, False])
        for wrong in self.BAD_GOODS:
            self.gives([is_schedule(OPEN, ((), wrong)), is_schedule(OPEN, (ORDERS, wrong))], [False, False])

    def test_refusals(self):
        for function in (can_deliver, first_late, lacking_goods):
            for wrong in self.BAD_ORDERS:
                self.refuses('orders', function, OPEN, wrong, ())
                self.refuses('orders', function, OPEN, wrong, None)
            for wrong in self.BAD_GOODS:
                self.refuses('goods', function, OPEN, (), wrong)
                self.refuses('goods', function, OPEN, ORDERS, wrong)

    def test_a_shop_with_choices(self):
        for thing in (((), ()), (ORDERS, ()), None, ((), None)):
            self.refuses('shop', is_schedule, SHOP, thing)
        for function in (can_deliver, first_late, lacking_goods):
            self.refuses('shop', function, SHOP, (), ())
            self.refuses('shop', function, SHOP, None, ())
            self.refuses('shop', function, (PARTS, SHOP[1], ()), None, None)

    def test_by_name(self):
        self.gives([is_schedule(shop=OPEN, thing=(ORDERS, ())), can_deliver(shop=OPEN, orders=(), goods=()),
                    first_late(shop=OPEN, orders=ORDERS, goods=()), lacking_goods(shop=OPEN, orders=(), goods=())],
                   [True, True, 2, ()])


class Delivering(Case):

    def test_by_the_sums(self):
        seen = {}
        for shop in SHOPS + [OPEN, STIFF, DEEP]:
            for orders, goods in some_schedules(shop, 12, 26):
                late = late_days(shop, orders, goods)
                self.gives(first_late(shop, orders, goods), late[0] if late else None)
                self.gives(can_deliver(shop, orders, goods), not late)
                self.gives(is_schedule(shop, (orders, goods)), True)
                seen[len(late)] = seen.get(len(late), 0) + 1
        self.assertGreater(min(seen[many] for many in (0, 1, 2, 3)), 10)

    def test_by_all_deeds(self):
        seen = {True: 0, False: 0}
        for shop in TINY:
            for orders, goods in some_schedules(shop, 8, 27, most=1, days=3, orders=2, goods=2):
                if all(sum(number for _, number in sales) <= 3 for _, sales in orders):
                    result = self.deliver(shop, orders, goods)
                    self.gives(can_deliver(shop, orders, goods), result)
                    seen[result] += 1
        self.assertGreater(min(seen.values()), 20)

    def deliver(self, shop, orders, goods):
        """Whether some deeds deliver the orders, tried one by one."""
        states, before = [pieces(shop)], -1
        for day, sales in orders:
            for when, part, number in goods:
                if before < when <= day:
                    states = [dict(there, **{part: there[part] + number}) for there in states]
            ways = set(permutations([name for name, number in sales for _ in range(number)]))
            states = [there for way in ways for there in behind_sales(shop, states, way)]
            before = day
        return bool(states)

    def test_by_a_hand_without_foresight(self):
        for pick in (min, max):
            for shop in SHOPS:
                for orders, goods in some_schedules(shop, 4, 28):
                    self.gives(first_late(shop, orders, goods), self.refused(shop, orders, goods, pick))

    def refused(self, shop, orders, goods, pick):
        """The first day on which the hand refuses a sale."""
        there, before = pieces(shop), -1
        for day, sales in orders:
            for when, part, number in goods:
                if before < when <= day:
                    there[part] += number
            for article, number in sales:
                for _ in range(number):
                    if not hand_gets(shop, there, article, pick):
                        return day
            before = day
        return None

    def test_goods_of_the_same_day_come_ahead(self):
        order = ((4, (('lamp', 6),)),)
        self.gives([first_late(OPEN, order, ((day, 'lamp', 1),)) for day in (0, 3, 4, 5)], [None, None, None, 4])
        self.gives([can_deliver(OPEN, order, ((day, 'lamp', 1),)) for day in (0, 3, 4, 5)], [True, True, True, False])

    def test_late_once_and_not_again(self):
        # Day 1 is late, day 3 would not be.
        orders = ((1, (('lamp', 6),)), (3, (('bulb', 1),)))
        self.gives([first_late(OPEN, orders, ((2, 'lamp', 9),)), can_deliver(OPEN, orders, ((2, 'lamp', 9),))],
                   [1, False])
        self.gives(lacking_goods(OPEN, orders, ((2, 'lamp', 9),)), ((1, 'lamp', 1),))

    def test_an_order_of_nothing(self):
        self.gives([can_deliver(OPEN, ((0, ()),), ()), first_late(OPEN, ((0, ()), (5, ())), ()),
                    lacking_goods(OPEN, ((0, ()),), ())],
                   [True, None, ()])


class Lacking(Case):

    def test_just_enough_and_just_in_time(self):
        entries = 0
        for shop in SHOPS + [OPEN, STIFF, DEEP]:
            for orders, goods in some_schedules(shop, 8, 29, most=3):
                lacking = lacking_goods(shop, orders, goods)
                self.assertTrue(is_schedule(shop, ((), lacking)))
                total = goods
                for day, part, number in lacking:
                    total = with_goods(total, day, part, number)
                self.assertEqual(late_days(shop, orders, total), [])
                for day, part, number in lacking:
                    entries += 1
                    fewer = with_goods(total, day, part, -1)
                    self.assertNotEqual(late_days(shop, orders, fewer), [])
                    self.assertNotEqual(late_days(shop, orders, with_goods(fewer, day + 1, part, 1)), [])
        self.assertGreater(entries, 200)

    def test_of_each_part_up_to_each_day(self):
        for shop in SHOPS[:30]:
            for orders, goods in some_schedules(shop, 6, 30, most=3):
                wanted, come = [], {}
                for day, sales in sums_by(orders):
                    left = netting(shop_by(shop, goods, day), sales)[2]
                    for part in sorted(left):
                        if -left[part] > come.get(part, 0):
                            wanted.append((day, part, -left[part] - come.get(part, 0)))
                            come[part] = -left[part]
                self.gives(lacking_goods(shop, orders, goods), tuple(wanted))

    def test_what_comes_later_does_not_help(self):
        orders = ((0, (('lamp', 6),)), (2, (('lamp', 2),)), (5, (('lamp', 1),)))
        self.gives(lacking_goods(OPEN, orders, ()), ((0, 'lamp', 1), (2, 'lamp', 2), (5, 'lamp', 1)))
        self.gives(lacking_goods(OPEN, orders, ((1, 'lamp', 1),)), ((0, 'lamp', 1), (2, 'lamp', 1), (5, 'lamp', 1)))
        self.gives(lacking_goods(OPEN, orders, ((1, 'lamp', 3),)), ((0, 'lamp', 1),))
        self.gives(lacking_goods(OPEN, orders, ((1, 'lamp', 4),)), ((0, 'lamp', 1),))

    def test_several_parts(self):
        orders = ((3, (('candle', 3), ('lamp', 6), ('plug', 8))), (4, (('bulb', 4), ('candle', 1))))
        self.gives(lacking_goods(OPEN, orders, ()),
                   ((3, 'candle', 2), (3, 'lamp', 1), (3, 'plug', 1), (4, 'bulb', 2), (4, 'candle', 1)))


class Consequences(Case):

    def test_nothing_lacks_if_all_can_be_delivered(self):
        for shop in SHOPS:
            for orders, goods in some_schedules(shop, 8, 31):
                self.gives(lacking_goods(shop, orders, goods) == (), can_deliver(shop, orders, goods))

    def test_earlier_or_more_goods(self):
        for shop in SHOPS[:30]:
            for orders, goods in some_schedules(shop, 6, 32):
                late = late_days(shop, orders, goods)
                for day, part, number in goods:
                    more = with_goods(goods, day, part, 1)
                    earlier = with_goods(with_goods(goods, day, part, -1), day // 2, part, 1)
                    for other in (more, earlier):
                        now = first_late(shop, orders, other)
                        self.assertTrue(now is None or now >= late[0])


class Examples(Case):

    def test_of_the_document(self):
        self.gives([can_deliver(OPEN, ORDERS, ((1, 'plug', 1),)), first_late(OPEN, ORDERS, ()),
                    first_late(OPEN, ORDERS, ((3, 'plug', 9),))], [True, 2, 2])
        self.gives([lacking_goods(OPEN, ORDERS, ()), lacking_goods(OPEN, ((0, (('lamp', 6),)), (4, (('trio', 1),))),
                                                                   ()),
                    is_schedule(OPEN, (ORDERS, None))], [((2, 'plug', 1),), ((0, 'lamp', 1), (4, 'lamp', 1)), False])


if __name__ == '__main__':
    unittest.main()
