"""Deeds: [23], [31], [32], [34], with [5] and the guarantees [9]."""

import unittest
from itertools import permutations

from kitsleft.deeds import behind, is_possible, plan_of, serves
from kitsleft.errors import NotHeld, NotPossible

from tests.cases import Case
from tests.oracle import after, articles, behind_all, deeds_of, holds, netting, pieces, plus, rows_to
from tests.samples import CHOICES, DEEP, NOTHINGS, PACKS, PARTS, SHARED, SHOP, STIFF, some_rows, some_shops

SHOPS = some_shops(60, 9, choices=3, packs=4, stock=4)
CHOOSING = [shop for shop in some_shops(120, 10, choices=3, packs=4, stock=4, made=1) if len(shop[1]) >= 2 and shop[2]]
BUILD, APART = ('build', 'box', ((), ('bulb',), ())), ('apart', 'trio')
SOME = (('box', 2), ('lamp', 1))
# A lamp in the sheet, and one or two more by the choices.
GREEDY = ((('lamp', 2), ('torch', 5)), (('ca', ('lamp', 'torch')), ('cb', ('lamp', 'torch'))),
          (('kit', 0, False, (('ca', 1), ('cb', 1), ('lamp', 1))), ('pair', 0, False, (('ca', 2),))))


def shop_with(shop, there):
    return (tuple((name, there[name]) for name, _ in shop[0]), shop[1],
            tuple((name, there[name], apart, sheet) for name, _, apart, sheet in shop[2]))


class Possible(Case):

    def test_all_deeds(self):
        possible = 0
        for shop in SHOPS + CHOOSING + [SHOP, STIFF, DEEP, SHARED, GREEDY]:
            for deed in deeds_of(shop):
                there = after(shop, pieces(shop), deed)
                self.gives(is_possible(shop, deed), there is not None)
                if there is None:
                    self.raises(NotPossible, {'at': 0}, behind, shop, (deed,))
                else:
                    possible += 1
                    self.gives(behind(shop, (deed,)), shop_with(shop, there))
        self.assertGreater(possible, 300)

    def test_so_many(self):
        self.gives([is_possible(SHOP, ('sell', article)) for article in articles(SHOP)], [True] * 6)
        empty = ((('a', 0),), (), (('k', 0, True, (('a', 1),)),))
        self.gives([is_possible(empty, deed) for deed in (('sell', 'a'), ('sell', 'k'), ('apart', 'k'),
                                                          ('build', 'k', ((),)))],
                   [False] * 4)
        one = ((('a', 2),), (), (('k', 0, True, (('a', 2),)),))
        self.gives([is_possible(one, ('build', 'k', ((),))), is_possible(one, ('apart', 'k'))], [True, False])
        self.gives(is_possible(((('a', 1),), (), (('k', 0, True, (('a', 2),)),)), ('build', 'k', ((),))), False)

    def test_what_the_sheet_names_and_what_is_chosen_together(self):
        lamp, torch = ('lamp',), ('torch',)
        self.gives([is_possible(GREEDY, ('build', 'kit', takes)) for takes in
                    ((torch, torch, ()), (lamp, torch, ()), (torch, lamp, ()), (lamp, lamp, ()))],
                    [True, True, True, False])
        self.gives(behind(GREEDY, (('build', 'kit', (lamp, torch, ())),))[0], (('lamp', 0), ('torch', 4)))
        self.gives(behind(GREEDY, (('build', 'pair', (('torch', 'lamp'),)),))[0], (('lamp', 1), ('torch', 4)))
        self.gives(behind(GREEDY, (('build', 'pair', (('lamp', 'lamp'),)),)),
                   ((('lamp', 0), ('torch', 5)), GREEDY[1], (GREEDY[2][0], ('pair', 1, False, (('ca', 2),)))))

    def test_any_value(self):
        for thing in NOTHINGS + ((), ('sell', 'light'), ('apart', 'box'), ('apart', 'lamp'), ('build', 'box', ()),
                                 ('sell',),
                                 ('build', 'box', ((), ('lamp',), ())), ['sell', 'lamp'], ('sell', ['lamp']),
                                 ('buy', 'lamp'),
                                 ('build', 'box', [(), ('bulb',), ()]), ('build', 'trio', ((), ('lamp',))),
                                 ('sell', True)):
            self.gives(is_possible(SHOP, thing), False)
            self.raises(NotPossible, {'at': 1}, behind, SHOP, (('sell', 'lamp'), thing))
            self.gives(serves(SHOP, (('sell', 'lamp'), thing), (('lamp', 1),)), False)

    def test_by_name(self):
        self.gives([is_possible(shop=SHOP, deed=BUILD), behind(shop=SHOP, deeds=()),
                    serves(shop=SHOP, deeds=(), sales=())],
                   [True, SHOP, True])
        self.gives(serves(SHOP, plan_of(shop=SHOP, sales=(('lamp', 1),), order=('lamp',)), (('lamp', 1),)), True)


class Behind(Case):

    def test_the_shop(self):
        self.gives(behind(SHOP, (BUILD,)),
                   ((('bulb', 1), ('candle', 1), ('lamp', 3), ('plug', 5)), CHOICES,
                    (('box', 2, False, PACKS[0][3]), ('trio', 0, True, PACKS[1][3]))))
        self.gives(behind(SHOP, (APART,)),
                   ((('bulb', 2), ('candle', 1), ('lamp', 5), ('plug', 7)), CHOICES,
                    (PACKS[0], ('trio', 0, True, PACKS[1][3]))))
        self.gives(behind(SHOP, (('sell', 'box'), ('sell', 'plug'))),
                   ((('bulb', 2), ('candle', 1), ('lamp', 4), ('plug', 4)), CHOICES,
                    (('box', 0, False, PACKS[0][3]), PACKS[1])))
        self.gives(behind(SHOP, ()), SHOP)

    def test_the_first_that_is_not_possible(self):
        lamps = (('sell', 'lamp'),) * 4
        self.raises(NotPossible, {'at': 4}, behind, SHOP, lamps + (('sell', 'lamp'), ('sell', 'nosuch')))
        self.gives(behind(SHOP, lamps + (APART, ('sell', 'lamp')))[0][2], ('lamp', 0))
        self.raises(NotPossible, {'at': 1}, behind, SHOP, (APART, APART))
        self.raises(NotPossible, {'at': 0}, behind, SHOP, (None, 'x'))
        self.raises(NotPossible, {'at': 1}, behind, SHOP, (APART, BUILD))

    def test_two_hundred_deeds(self):
        again = (('build', 'trio', ((), ())), APART)
        self.gives(behind(SHOP, again * 100), SHOP)
        self.gives(behind(SHOP, again * 100 + (APART,))[0][2], ('lamp', 5))
        self.raises(NotPossible, {'at': 201}, behind, SHOP, again * 100 + (APART, APART))

    def test_refusals(self):
        for wrong in (None, True, 0, '', 'sell', [], [('sell', 'lamp')]):
            self.refuses('deeds', behind, SHOP, wrong)
            self.refuses('deeds', serves, SHOP, wrong, ())
            self.refuses('deeds', serves, SHOP, wrong, None)


class Serving(Case):

    def test_serves(self):
        sell = ('sell', 'lamp')
        self.gives([serves(SHOP, (sell,), (('lamp', 1),)), serves(SHOP, (sell, sell), (('lamp', 1),)),
                    serves(SHOP, (sell,), (('lamp', 2),)), serves(SHOP, (), (('lamp', 1),)), serves(SHOP, (sell,), ())],
                   [True, False, False, False, False])
        self.gives([serves(SHOP, (APART, sell), (('lamp', 1),)),
                    serves(SHOP, (sell, BUILD, ('sell', 'box')), (('box', 1), ('lamp', 1))),
                    serves(SHOP, (sell, BUILD), (('box', 1), ('lamp', 1))), serves(SHOP, (APART, BUILD), ())],
                   [True, True, False, False])
        # One that is not possible, behind all that were sold.
        self.gives([serves(SHOP, (sell, APART, APART), (('lamp', 1),)), serves(SHOP, (None, sell), (('lamp', 1),))],
                   [False, False])

    def test_sales(self):
        for wrong in NOTHINGS + ((('light', 1),), (('lamp', 1), ('box', 1)), [('lamp', 1)], 0):
            self.refuses('sales', serves, SHOP, (), wrong)
            self.refuses('sales', serves, SHOP, (None,), wrong)
            self.refuses('sales', plan_of, SHOP, wrong)
            self.refuses('sales', plan_of, SHOP, wrong, order=0)

    def test_order(self):
        for wrong in (True, 0, '', 'lamp', [], ['lamp', 'box', 'box'], (), ('box', 'lamp'),
                      ('box', 'box', 'lamp', 'lamp'),
                      ('box', 'box', 'box'), ('box', 'box', 'light'), ('box', 'box', None), ('box', 'box', ['lamp']),
                      ('box', 'box', True), (('box', 2), ('lamp', 1)), ('box', 'box', 'lamp', None),
                      ('box', 'box', 'lamp', 'nosuch')):
            self.refuses('order', plan_of, SHOP, SOME, order=wrong)
            self.refuses('order', plan_of, SHOP, (('box', 4),), order=wrong)
        self.refuses('order', plan_of, SHOP, (), order=('lamp',))
        self.refuses('order', plan_of, SHOP, (), order=[])
        self.refuses('order', plan_of, SHOP, (), order=False)

    def test_order_by_name_only(self):
        with self.assertRaises(TypeError):
            plan_of(SHOP, SOME, ('box', 'box', 'lamp'))

    def serves_in_order(self, shop, sales, order, plan):
        self.assertIs(type(plan), tuple)
        for deed in plan:
            self.gives(deed, tuple(deed))
            if deed[0] == 'build':
                self.assertIs(type(deed[2]), tuple)
                self.assertEqual({type(take) for take in deed[2]}, {tuple})
        known = {(deed[0],
                  deed[1]) + tuple(tuple(sorted(take)) for take in deed[2:3] and deed[2]) for deed in deeds_of(shop)}
        for deed in plan:
            self.assertIn((deed[0], deed[1]) + tuple(tuple(sorted(take)) for take in deed[2:3] and deed[2]), known)
        self.assertIsNotNone(behind_all(shop, plan))
        sold = [deed[1] for deed in plan if deed[0] == 'sell']
        if order is None:
            self.assertEqual(sorted(sold), [name for name, number in sales for _ in range(number)])
        else:
            self.assertEqual(sold, list(order))
        self.gives(serves(shop, plan, sales), True)

    def test_plans(self):
        plans = 0
        for shop in SHOPS + CHOOSING + [DEEP, SHOP, SHARED, GREEDY]:
            for sales in some_rows(shop, 25, 11):
                order = tuple(name for name, number in sales for _ in range(number))
                if holds(shop, sales):
                    plans += len(sales) > 1
                    for some in (None, order, order[::-1], order[1::2] + order[::2]):
                        self.serves_in_order(shop, sales, some, plan_of(shop, sales, order=some))
                    self.serves_in_order(shop, sales, None, plan_of(shop, sales))
                else:
                    with self.assertRaises(NotHeld):
                        plan_of(shop, sales)
                    with self.assertRaises(NotHeld):
                        plan_of(shop, sales, order=order)
        self.assertGreater(plans, 100)

    def test_each_order(self):
        sales = (('box', 2), ('lamp', 1), ('trio', 1))
        for order in set(permutations(('box', 'box', 'lamp', 'trio'))):
            self.serves_in_order(SHOP, sales, order, plan_of(SHOP, sales, order=order))

    def test_soft_in_soft(self):
        # All beans come out of jars, and most jars out of bags.
        shop = ((('bean', 0), ('tie', 0)), (), (('bag', 2, True, (('jar', 2), ('tie', 1))),
                                                ('jar', 1, True, (('bean', 3),))))
        for sales in ((('bean', 15),), (('bag', 1), ('bean', 9)), (('bean', 9), ('jar', 2)), (('bag', 2), ('jar', 1))):
            self.serves_in_order(shop, sales, None, plan_of(shop, sales))

    def test_packs_in_packs_are_built_first(self):
        # Names are neither in the order of building nor in the other one.
        shop = ((('pa', 20),), (), (('ka', 0, False, (('kc', 2),)), ('kb', 0, False, (('pa', 1),)),
                                    ('kc', 0, False, (('kb', 2),))))
        for sales in ((('ka', 5),), (('ka', 2), ('kb', 3), ('kc', 1))):
            self.serves_in_order(shop, sales, None, plan_of(shop, sales))

    def test_nothing_to_sell(self):
        self.gives(serves(SHOP, plan_of(SHOP, ()), ()), True)
        self.gives(serves(SHOP, plan_of(SHOP, (), order=()), ()), True)

    def test_many_pieces(self):
        shop = ((('pa', 60), ('pb', 60)), (('ca', ('pa', 'pb')),),
                (('ka', 0, False, (('ca', 4),)), ('kb', 60, True, (('pa', 4),))))
        sales = (('ka', 60), ('kb', 30))
        self.serves_in_order(shop, sales, None, plan_of(shop, sales))

    def test_why_it_does_not_hold(self):
        self.raises(NotHeld, {'short': ((), ('lamp',))}, plan_of, SHOP, (('box', 4),))
        self.raises(NotHeld, {'short': ((), ('lamp',))}, plan_of, SHOP, (('box', 4),), order=('box',) * 4)
        self.raises(NotHeld, {'short': (('light',), ('bulb', 'candle'))}, plan_of, SHOP, (('box', 3), ('bulb', 2)))
        self.raises(NotHeld, {'short': (('ca', 'cb', 'cc'), ('pa', 'pb', 'pc'))}, plan_of, SHARED,
                    (('ka', 2), ('kb', 1), ('kc', 1)))


class Consequences(Case):
    SMALL = some_shops(40, 12, parts=3, choices=2, packs=3, stock=2, made=2)

    def test_what_is_served_holds(self):
        for shop in self.SMALL:
            possible = [deed for deed in deeds_of(shop) if is_possible(shop, deed)]
            for first in possible:
                for second in deeds_of(shop):
                    sales = ()
                    for deed in (first, second):
                        sales = plus(sales, deed[1], 1) if deed[0] == 'sell' else sales
                    if serves(shop, (first, second), sales):
                        self.assertTrue(holds(shop, sales))

    def test_behind_a_sale(self):
        for shop in self.SMALL:
            rows = some_rows(shop, 30, 13)
            for article in articles(shop):
                if is_possible(shop, ('sell', article)):
                    later = behind(shop, (('sell', article),))
                    for sales in rows:
                        self.assertEqual(holds(later, sales), holds(shop, plus(sales, article, 1)))

    def test_behind_soft_packs_the_same_rows_hold(self):
        for shop in self.SMALL:
            rows = list(rows_to(shop, 2))[::5]
            soft = {pack[0] for pack in shop[2] if pack[2]}
            for deed in deeds_of(shop):
                if deed[0] != 'sell' and is_possible(shop, deed):
                    later = behind(shop, (deed,))
                    for sales in rows:
                        if deed[1] in soft:
                            self.assertEqual(holds(later, sales), holds(shop, sales))
                        else:
                            self.assertLessEqual(holds(later, sales), holds(shop, sales))

    def test_a_plan_can_do_with_the_netting(self):
        # Any plan leaves at most what the netting leaves of each part.
        for shop in SHOPS:
            if not shop[1]:
                for sales in some_rows(shop, 10, 14):
                    if holds(shop, sales):
                        left = netting(shop, sales)[2]
                        there = behind_all(shop, plan_of(shop, sales))
                        for part in left:
                            self.assertLessEqual(there[part], left[part])


class Examples(Case):

    def test_of_the_document(self):
        self.gives([is_possible(SHOP, BUILD), is_possible(SHOP, ('apart', 'box')), behind(SHOP, (APART,))[0][2:],
                    behind(SHOP, (BUILD,))[2][0][1]], [True, False, (('lamp', 5), ('plug', 7)), 2])
        plan = plan_of(SHOP, SOME, order=('box', 'lamp', 'box'))
        self.gives([serves(SHOP, plan, SOME), [deed[1] for deed in plan if deed[0] == 'sell'],
                    serves(SHOP, (('sell', 'box'),), SOME)],
                   [True, ['box', 'lamp', 'box'], False])
        self.raises(NotPossible, {'at': 1}, behind, SHOP, (APART, BUILD))


if __name__ == '__main__':
    unittest.main()
