"""Rows that hold: [23], [26], [27], with [6], [7] and the guarantees [9]."""

import unittest
from itertools import combinations, product

from kitsleft.errors import NotHeld
from kitsleft.holds import givings, is_held, overasked

from tests.cases import Case
from tests.oracle import articles, can_serve, holds, netting, row, rows_to, shorts
from tests.samples import DEEP, NOTHINGS, PARTS, SHARED, SHOP, some_rows, some_shops

SHOPS = some_shops(60, 4, choices=3, packs=4, stock=4)
CHOOSING = [shop for shop in some_shops(200, 5, choices=3, packs=4, stock=3, made=1,
                                        count=1) if len(shop[1]) >= 2 and shop[2]]
WRONG_ROWS = NOTHINGS + ((('light', 1),), (('lamp', 1), ('box', 1)), (('box', 1), ('box', 1)), [('box', 1)], 0, 'box')


def told(shop, sales):
    """What overasked has to return."""
    left = netting(shop, sales)[2]
    lacking = sorted(part for part in left if left[part] < 0)
    if lacking:
        return ((), (lacking[0],))
    found = shorts(shop, sales)
    return found[0] if found else None


class Held(Case):

    def test_all_rows(self):
        held = 0
        for shop in SHOPS + CHOOSING[:30]:
            for sales in some_rows(shop, 60, 8):
                self.gives(is_held(shop, sales), holds(shop, sales))
                held += holds(shop, sales)
        self.assertGreater(held, 1000)

    def test_nothing_always_holds(self):
        for shop in SHOPS:
            self.gives([is_held(shop, ()), overasked(shop, ())], [True, None])

    def test_one_piece_more(self):
        # Boxes: one made up, of the trio that lies there, of one that is built; a fourth one wants a fifth lamp.
        self.gives([is_held(SHOP, (('box', number),)) for number in (1, 2, 3, 4)], [True, True, True, False])
        self.gives([is_held(SHOP, (('lamp', number),)) for number in (4, 5, 6)], [True, True, False])
        self.gives([is_held(DEEP, (('crate', number),)) for number in (3, 4)],
                   [holds(DEEP, (('crate', number),)) for number in (3, 4)])

    def test_a_stiff_pack_gives_nothing_back(self):
        # The box that is made up is not asked, and its lamp is no lamp.
        self.gives([is_held(SHOP, (('bulb', number),)) for number in (2, 3)], [True, False])
        self.gives([is_held(SHOP, (('plug', number),)) for number in (7, 8)], [True, False])

    def test_soft_around_stiff(self):
        # Taking bags apart gives jars, which stay whole: their beans are not there.
        shop = ((('bean', 2), ('tie', 0)), (), (('bag', 2, True, (('jar', 2), ('tie', 1))),
                                                ('jar', 0, False, (('bean', 1),))))
        self.gives([is_held(shop, (('jar', number),)) for number in (6, 7)], [True, False])
        self.gives([is_held(shop, (('bean', number),)) for number in (2, 3)], [True, False])
        self.gives([is_held(shop, (('tie', number),)) for number in (2, 3)], [True, False])

    def test_soft_in_soft(self):
        shop = ((('bean', 0), ('tie', 0)), (), (('bag', 2, True, (('jar', 2), ('tie', 1))),
                                                ('jar', 1, True, (('bean', 3),))))
        self.gives([is_held(shop, (('bean', number),)) for number in (15, 16)], [True, False])
        self.gives([is_held(shop, (('bag', 1), ('bean', number))) for number in (9, 10)], [True, False])
        self.gives([is_held(shop, (('bean', 9), ('jar', number))) for number in (2, 3)], [True, False])

    def test_by_name(self):
        self.gives([is_held(shop=SHOP, sales=()), overasked(shop=SHOP, sales=()), givings(shop=SHOP, sales=())],
                   [True, None, ()])

    def test_refusals(self):
        for function in (is_held, overasked, givings):
            for wrong in WRONG_ROWS:
                self.refuses('sales', function, SHOP, wrong)


class Overasked(Case):

    def test_all_rows(self):
        kinds = {}
        for shop in SHOPS + CHOOSING:
            for sales in some_rows(shop, 60, 8):
                wanted = told(shop, sales)
                self.gives(overasked(shop, sales), wanted)
                kind = None if wanted is None else len(wanted[0])
                kinds[kind] = kinds.get(kind, 0) + 1
        self.assertGreater(min(kinds[kind] for kind in (None, 0, 1, 2)), 20)

    def test_the_first_part(self):
        self.gives(overasked(SHOP, (('bulb', 3), ('candle', 2), ('lamp', 9))), ((), ('bulb',)))
        self.gives(overasked(SHOP, (('lamp', 6), ('plug', 8))), ((), ('lamp',)))
        self.gives(overasked(SHOP, (('plug', 8),)), ((), ('plug',)))

    def test_parts_ahead_of_choices(self):
        self.gives(overasked(SHOP, (('box', 4), ('bulb', 2), ('candle', 1))), ((), ('lamp',)))

    def test_only_all_three_together(self):
        sales = (('ka', 2), ('kb', 1), ('kc', 1))
        self.gives(overasked(SHARED, sales), (('ca', 'cb', 'cc'), ('pa', 'pb', 'pc')))
        self.gives([is_held(SHARED, sales), is_held(SHARED, (('ka', 1), ('kb', 1), ('kc', 1)))], [False, True])
        for article in ('ka', 'kb', 'kc'):
            self.assertTrue(is_held(SHARED, row((name, number - (name == article)) for name, number in sales)))
        self.raises(NotHeld, {'short': (('ca', 'cb', 'cc'), ('pa', 'pb', 'pc'))}, givings, SHARED, sales)

    def test_only_two_together(self):
        shop = ((('pa', 1), ('pb', 1), ('pc', 9)), (('ca', ('pa', 'pc')), ('cb', ('pa', 'pb')), ('cc', ('pa', 'pb'))),
                SHARED[2])
        self.gives(overasked(shop, (('ka', 1), ('kb', 2), ('kc', 1))), (('cb', 'cc'), ('pa', 'pb')))

    def test_the_least_of_the_smallest(self):
        self.gives(overasked(SHARED, (('ka', 3), ('kb', 3), ('kc', 3))), (('ca',), ('pa', 'pb')))
        self.gives(overasked(SHARED, (('kb', 3), ('kc', 3))), (('cb',), ('pb', 'pc')))
        # A single one goes ahead of two, though it comes later by name.
        shop = ((('pa', 2), ('pb', 2)), (('ca', ('pa', 'pb')), ('cb', ('pa', 'pb')), ('cc', ('pa', 'pb'))), SHARED[2])
        self.gives(overasked(shop, (('ka', 3), ('kb', 3), ('kc', 3))), (('ca', 'cb'), ('pa', 'pb')))
        self.gives(overasked(shop, (('ka', 1), ('kb', 2), ('kc', 3))), (('cb', 'cc'), ('pa', 'pb')))
        self.gives(overasked(shop, (('ka', 1), ('kb', 3), ('kc', 4))), (('ca', 'cc'), ('pa', 'pb')))
        self.gives(overasked(shop, (('ka', 1), ('kb', 3), ('kc', 5))), (('cc',), ('pa', 'pb')))

    def test_what_is_left_counts(self):
        # The options of a choice are sold loose, too.
        self.gives(overasked(SHOP, (('box', 3), ('bulb', 2))), (('light',), ('bulb', 'candle')))
        self.gives([overasked(SHOP, (('box', 3), ('bulb', 1))), overasked(SHOP, (('box', 2), ('bulb', 2)))],
                   [None, None])


class Givings(Case):

    def test_all_rows(self):
        given = 0
        for shop in SHOPS + CHOOSING:
            options = dict(shop[1])
            for sales in some_rows(shop, 60, 8):
                if not holds(shop, sales):
                    self.raises(NotHeld, {'short': told(shop, sales)}, givings, shop, sales)
                    continue
                _, wanted, left = netting(shop, sales)
                result = givings(shop, sales)
                given += len(result)
                self.assertIs(type(result), tuple)
                self.assertEqual(list(result), sorted(result))
                self.assertEqual(len({entry[:2] for entry in result}), len(result))
                for entry in result:
                    self.assertIs(type(entry), tuple)
                    choice, part, number = entry
                    self.assertIn(part, options[choice])
                    self.assertIs(type(number), int)
                    self.assertGreaterEqual(number, 1)
                for choice in options:
                    self.assertEqual(sum(number for one, _, number in result if one == choice), wanted[choice])
                for part in left:
                    self.assertLessEqual(sum(number for _, one, number in result if one == part), left[part])
        self.assertGreater(given, 300)

    def test_a_choice_gives_way(self):
        # Whichever choice takes first must leave pb to the one that has nothing else.
        for first, last in (('ca', 'cb'), ('cb', 'ca')):
            names = {first: ('pa', 'pb'), last: ('pb', 'pc')}
            shop = ((('pa', 2), ('pb', 2), ('pc', 0)), tuple(sorted(names.items())),
                    (('ka', 0, False, (('ca', 2),)), ('kb', 0, False, (('cb', 2),))))
            self.gives(givings(shop, (('ka', 1), ('kb', 1))), tuple(sorted([(first, 'pa', 2), (last, 'pb', 2)])))

    def test_one_piece_each(self):
        # All that three choices can be between three parts, of each of which there is one or none.
        some_options = list(combinations(('pa', 'pb', 'pc'), 2)) + [('pa', 'pb', 'pc')]
        fitting = 0
        for options in product(some_options, repeat=3):
            for stocks in product((0, 1), repeat=3):
                shop = (tuple(zip(('pa', 'pb', 'pc'), stocks)), tuple(zip(('ca', 'cb', 'cc'), options)), SHARED[2])
                for sales in ((('ka', 1), ('kb', 1)), (('ka', 1), ('kc', 1)), (('kb', 1), ('kc', 1)),
                              (('ka', 1), ('kb', 1), ('kc', 1))):
                    if not shorts(shop, sales):
                        fitting += 1
                        given = givings(shop, sales)
                        self.assertEqual([choice for choice, _, _ in given], ['c' + article[1] for article, _ in sales])
                        self.assertEqual(len({part for _, part, _ in given}), len(sales))
                        for choice, part, number in given:
                            self.gives(number, 1)
                            self.assertIn(part, dict(shop[1])[choice])
                            self.assertEqual(dict(shop[0])[part], 1)
        self.assertGreater(fitting, 300)

    def test_nothing_to_give(self):
        self.gives([givings(SHOP, ()), givings(SHOP, (('box', 1),)), givings((PARTS, (), ()), (('lamp', 4),))],
                   [(), (), ()])


class Guarantees(Case):
    SMALL = some_shops(25, 6, parts=2, choices=1, packs=3, stock=2, made=1) + some_shops(10, 7, parts=3, choices=3,
        packs=3,
                                                                                        stock=1, made=1, count=1)

    def test_served_in_each_order_or_in_none(self):
        for shop in self.SMALL:
            for sales in list(rows_to(shop, 2))[::3]:
                if sum(number for _, number in sales) <= 4:
                    order = [name for name, number in sales for _ in range(number)]
                    for some in (order, order[::-1], order[1:] + order[:1]):
                        self.gives(is_held(shop, sales), can_serve(shop, some))

    def test_at_most(self):
        for shop in SHOPS[:25]:
            for sales in rows_to(shop, 2):
                if is_held(shop, sales):
                    for article, number in sales:
                        fewer = row((name, many - (name == article)) for name, many in sales)
                        self.assertTrue(is_held(shop, fewer))

    def test_half_of_the_sum(self):
        for shop in CHOOSING[:12]:
            held = [dict(sales) for sales in list(rows_to(shop, 3))[::5] if is_held(shop, sales)][:40]
            for one, other in combinations(held, 2):
                half = row((name, (one.get(name, 0) + other.get(name, 0)) // 2) for name in articles(shop))
                self.assertTrue(is_held(shop, half))


class Examples(Case):

    def test_of_the_document(self):
        self.gives([is_held(SHOP, (('box', 3),)), overasked(SHOP, (('box', 3),)),
                    overasked(SHOP, (('box', 2), ('bulb', 2), ('candle', 1)))],
                    [True, None, (('light',), ('bulb', 'candle'))])
        self.raises(NotHeld, {'short': ((), ('lamp',))}, givings, SHOP, (('box', 4),))
        given = givings(SHOP, (('box', 3), ('bulb', 1)))
        self.gives(given, (('light', 'bulb', 1), ('light', 'candle', 1)))


if __name__ == '__main__':
    unittest.main()
