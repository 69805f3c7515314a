"""Numbers alone and beside: [35] to [38], with [7]."""

import unittest

from kitsleft.alone import alone_of, alone_row, are_true_alone, beside, besides

from tests.cases import Case
from tests.oracle import alone, articles, holds, plus, row, rows_to
from tests.samples import DEEP, NOTHINGS, PARTS, SHARED, SHOP, STIFF, some_rows, some_shops

SHOPS = some_shops(40, 15, choices=3, packs=4, stock=4) + [SHOP, STIFF, SHARED]
WRONG_ROWS = NOTHINGS + ((('light', 1),), (('lamp', 1), ('box', 1)), (('box', 1), ('box', 1)), [('box', 1)], 0, 'box')
WRONG_ARTICLES = NOTHINGS + ('light', 0, 1, (), ('lamp', 'plug'))


class Alone(Case):

    def test_alone_of(self):
        for shop in SHOPS + [DEEP]:
            for article in articles(shop):
                self.gives(alone_of(shop, article), alone(shop, article))

    def test_none_at_all(self):
        shop = ((('pa', 0), ('pb', 3)), (), (('ka', 0, False, (('pa', 1), ('pb', 1))),))
        self.gives([alone_of(shop, 'pa'), alone_of(shop, 'pb'), alone_of(shop, 'ka'), alone_row(shop)],
                   [0, 3, 0, (('pb', 3),)])
        self.gives(alone_row(((('pa', 0),), (), ())), ())

    def test_up_to_four_hundred(self):
        for stock in (1, 2, 3, 4, 7, 8, 9, 59, 60):
            shop = ((('pa', stock),), (), (('ka', stock, True, (('pa', 4),)), ('kb', 20, True, (('ka', 1),))))
            self.gives([alone_of(shop, 'pa'), alone_of(shop, 'ka')], [stock * 5 + 80, stock + 20 + stock // 4])

    def test_alone_row(self):
        for shop in SHOPS:
            self.gives(alone_row(shop), row((article, alone(shop, article)) for article in articles(shop)))

    def test_are_true_alone(self):
        for shop in SHOPS:
            for sales in some_rows(shop, 20, 16, most=5):
                self.gives(are_true_alone(shop, sales), all(number <= alone(shop, article) for article,
                                                            number in sales))
            self.gives([are_true_alone(shop, alone_row(shop)), are_true_alone(shop, ())], [True, True])
            for article in articles(shop):
                self.gives(are_true_alone(shop, plus(alone_row(shop), article, 1)), False)

    def test_by_name(self):
        self.gives([alone_of(shop=SHOP, article='lamp'), alone_row(shop=STIFF)[2:],
                    are_true_alone(shop=SHOP, sales=())],
                   [5, (('lamp', 4), ('pair', 2), ('plug', 5)), True])
        self.gives([beside(shop=SHOP, sales=(), article='lamp'),
                    besides(shop=SHOP, sales=(('lamp', 1),), less='lamp', article='lamp')],
                   [5, (4, 5)])


class Beside(Case):

    def test_beside(self):
        found = set()
        for shop in SHOPS:
            for sales in some_rows(shop, 12, 17):
                for article in articles(shop):
                    wanted = alone(shop, article, sales) if holds(shop, sales) else None
                    self.gives(beside(shop, sales, article), wanted)
                    found.add(wanted)
        self.assertLessEqual({None, 0, 1, 2, 3, 4}, found)

    def test_besides(self):
        for shop in SHOPS:
            for sales in some_rows(shop, 6, 18):
                for less, number in sales:
                    for article in articles(shop):
                        rows = [row((name, many - (name == less) * fewer) for name,
                                    many in sales) for fewer in range(number + 1)]
                        self.gives(besides(shop, sales, less, article),
                                   tuple(alone(shop, article, one) if holds(shop, one) else None for one in rows))

    def test_none_first(self):
        self.gives(besides(SHOP, (('box', 5),), 'box', 'trio'), (None, None, 1, 2, 3, 3))
        self.gives(besides(SHOP, (('box', 5), ('lamp', 9)), 'box', 'trio'), (None,) * 6)
        self.gives(besides(SHOP, (('box', 4),), 'box', 'box'), (None, 0, 1, 2, 3))

    def test_sixty_pieces(self):
        shop = ((('pa', 60),), (), (('ka', 0, True, (('pa', 1),)),))
        self.gives(besides(shop, (('pa', 60),), 'pa', 'ka'), tuple(range(61)))

    def test_refusals(self):
        for wrong in WRONG_ARTICLES:
            self.refuses('article', alone_of, SHOP, wrong)
            self.refuses('article', beside, SHOP, (), wrong)
            self.refuses('article', beside, SHOP, (('box', 9),), wrong)
            self.refuses('article', besides, SHOP, (('box', 1),), 'box', wrong)
            self.refuses('less', besides, SHOP, (('box', 1),), wrong, 'box')
        for wrong in WRONG_ROWS:
            self.refuses('sales', are_true_alone, SHOP, wrong)
            self.refuses('sales', beside, SHOP, wrong, 'box')
            self.refuses('sales', besides, SHOP, wrong, 'box', 'box')
        for wrong in ('lamp', 'trio'):
            self.refuses('less', besides, SHOP, (('box', 1),), wrong, 'box')
        self.refuses('less', besides, SHOP, (), 'box', 'box')

    def test_the_first_one_is_named(self):
        self.refuses('sales', beside, SHOP, None, None)
        self.refuses('sales', besides, SHOP, (('box', 0),), 'lamp', 'light')
        self.refuses('less', besides, SHOP, (('box', 1),), 'lamp', 'light')
        self.refuses('sales', besides, SHOP, (('light', 1),), 'light', 'lamp')


class Consequences(Case):
    SMALL = some_shops(12, 19, parts=2, choices=1, packs=3, stock=3)

    def test_beside_nothing(self):
        for shop in SHOPS:
            for article in articles(shop):
                self.gives(beside(shop, (), article), alone_of(shop, article))

    def test_just_up_to_beside(self):
        for shop in self.SMALL:
            for sales in rows_to(shop, 2):
                if holds(shop, sales):
                    for article in articles(shop):
                        most = beside(shop, sales, article)
                        for more in range(most + 3):
                            self.assertEqual(holds(shop, plus(sales, article, more)), more <= most)
                        self.assertLessEqual(dict(sales).get(article, 0) + most, alone_of(shop, article))

    def test_besides_never_falls(self):
        for shop in self.SMALL:
            for sales in rows_to(shop, 2):
                for less, _ in sales:
                    for article in articles(shop):
                        found = [-1 if number is None else number for number in besides(shop, sales, less, article)]
                        self.assertEqual(found, sorted(found))

    def test_with_more_sales_beside_is_not_greater(self):
        for shop in self.SMALL:
            for sales in rows_to(shop, 1):
                for more in articles(shop):
                    for article in articles(shop):
                        first, second = beside(shop, sales, article), beside(shop, plus(sales, more, 1), article)
                        if second is not None:
                            self.assertLessEqual(second, first)


class Examples(Case):

    def test_of_the_document(self):
        self.gives([alone_row(SHOP), alone_of(SHOP, 'lamp'), are_true_alone(SHOP, (('box', 3), ('trio', 3)))],
                   [(('box', 3), ('bulb', 2), ('candle', 1), ('lamp', 5), ('plug', 7), ('trio', 3)), 5, True])
        self.gives([beside(SHOP, (('box', 2),), 'trio'), beside(SHOP, (('box', 2), ('trio', 1)), 'lamp'),
                    beside(SHOP, (('box', 4),), 'bulb')], [2, 2, None])
        self.gives(besides(SHOP, (('box', 3),), 'box', 'trio'), (1, 2, 3, 3))
        self.refuses('article', beside, SHOP, (), 'light')


if __name__ == '__main__':
    unittest.main()
