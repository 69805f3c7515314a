"""Rows: [4], [13], [18]."""

import unittest

from kitsleft.shoprows import is_at_most, number_in, row_sum

from tests.cases import Case
from tests.oracle import articles, rows_to
from tests.samples import NOTHINGS, SHOP, STIFF

WRONG_ROWS = NOTHINGS + (
    (('light', 1),), (('lamp', 1), ('box', 1)), (('box', 1), ('box', 1)), (('box', False),), [('box', 1)], ('box', 1),
    0, 'box')


class Rows(Case):

    def test_number_in(self):
        sales = (('box', 1), ('lamp', 2))
        self.gives([number_in(SHOP, sales, article) for article in articles(SHOP)], [1, 0, 0, 2, 0, 0])
        self.gives([number_in(SHOP, (), 'box'), number_in(shop=SHOP, sales=sales, article='lamp')], [0, 2])

    def test_row_sum(self):
        self.gives(row_sum(SHOP, (('lamp', 2), ('trio', 1)), (('box', 3), ('lamp', 60))),
                   (('box', 3), ('lamp', 62), ('trio', 1)))
        self.gives([row_sum(SHOP, (), ()), row_sum(SHOP, (('box', 1),), ()), row_sum(SHOP, (), (('box', 1),))],
                   [(), (('box', 1),), (('box', 1),)])
        self.gives(row_sum(shop=SHOP, sales=(('box', 1),), late=(('bulb', 1),)), (('box', 1), ('bulb', 1)))

    def test_row_sum_of_its_own_results(self):
        sales = (('box', 10 ** 59), ('lamp', 1))
        for _ in range(20):
            sales = row_sum(SHOP, sales, sales)
        self.gives(sales, (('box', 10 ** 59 * 2 ** 20), ('lamp', 2 ** 20)))
        self.gives(number_in(SHOP, sales, 'box'), 10 ** 59 * 2 ** 20)

    def test_is_at_most(self):
        one, two = (('box', 1), ('lamp', 2)), (('box', 1), ('bulb', 1), ('lamp', 3))
        self.gives([is_at_most(SHOP, one, two), is_at_most(SHOP, two, one), is_at_most(SHOP, one, one)],
                   [True, False, True])
        self.gives([is_at_most(SHOP, (), one), is_at_most(SHOP, one, ()), is_at_most(SHOP, (), ())],
                   [True, False, True])
        self.gives([is_at_most(SHOP, (('box', 2),), two), is_at_most(SHOP, (('trio', 1),), two)], [False, False])
        self.gives(is_at_most(shop=SHOP, sales=one, late=two), True)

    def test_all_small_rows(self):
        rows = list(rows_to(STIFF, 1))
        for sales in rows:
            for late in rows:
                numbers = [(dict(sales).get(name, 0), dict(late).get(name, 0)) for name in articles(STIFF)]
                self.gives(is_at_most(STIFF, sales, late), all(one <= other for one, other in numbers))
                total = row_sum(STIFF, sales, late)
                self.gives([number_in(STIFF, total, name) for name in articles(STIFF)],
                           [one + other for one, other in numbers])

    def test_refusals(self):
        for wrong in WRONG_ROWS:
            self.refuses('sales', number_in, SHOP, wrong, 'box')
            self.refuses('sales', row_sum, SHOP, wrong, ())
            self.refuses('late', row_sum, SHOP, (), wrong)
            self.refuses('sales', is_at_most, SHOP, wrong, ())
            self.refuses('late', is_at_most, SHOP, (), wrong)
        for wrong in NOTHINGS + ('light', 0, ()):
            self.refuses('article', number_in, SHOP, (), wrong)

    def test_the_first_one_is_named(self):
        for wrong in WRONG_ROWS:
            self.refuses('sales', number_in, SHOP, wrong, 'light')
            self.refuses('sales', row_sum, SHOP, wrong, None)
            self.refuses('sales', is_at_most, SHOP, wrong, True)


class Examples(Case):

    def test_of_the_document(self):
        self.gives(row_sum(SHOP, (('box', 1), ('lamp', 2)), (('lamp', 3),)), (('box', 1), ('lamp', 5)))


if __name__ == '__main__':
    unittest.main()
