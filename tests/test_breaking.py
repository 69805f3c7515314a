"""Rows that break: [35], [39], [40]."""

import unittest

from kitsleft.breaking import alone_together, breaking_row, is_breaking
from kitsleft.kinds import is_row

from tests.cases import Case
from tests.oracle import after, alone, articles, deeds_of, holds, pieces, row, rows_to
from tests.samples import CHOICES, DEEP, NOTHINGS, PARTS, SHARED, SHOP, STIFF, some_rows, some_shops

SHOPS = some_shops(50, 20, choices=3, packs=4, stock=3) + [SHOP, STIFF, SHARED]
WRONG_ROWS = NOTHINGS + ((('light', 1),), (('lamp', 1), ('box', 1)), (('box', 1), ('box', 1)), [('box', 1)], 0, 'box')


def fewer(sales, article):
    return row((name, number - (name == article)) for name, number in sales)


def breaks(shop, sales):
    return not holds(shop, sales) and all(holds(shop, fewer(sales, article)) for article, _ in sales)


class Breaking(Case):

    def test_breaking_row(self):
        found = 0
        for shop in SHOPS + [DEEP]:
            for sales in some_rows(shop, 25, 21, most=5):
                result = breaking_row(shop, sales)
                if holds(shop, sales):
                    self.assertIsNone(result)
                    continue
                found += len(result) > 1
                self.assertIs(is_row(shop, result), True)
                self.assertTrue(breaks(shop, result))
                for article, number in result:
                    self.assertLessEqual(number, dict(sales).get(article, 0))
        self.assertGreater(found, 50)

    def test_is_breaking(self):
        found = 0
        for shop in SHOPS[:25] + SHOPS[-3:]:
            for sales in list(rows_to(shop, 2))[::3]:
                self.gives(is_breaking(shop, sales), breaks(shop, sales))
                found += breaks(shop, sales)
        self.assertGreater(found, 50)

    def test_what_breaks_is_its_own(self):
        for sales in ((('box', 3), ('lamp', 2)), (('lamp', 6),), (('box', 3), ('trio', 2)), (('box', 4),)):
            self.gives([is_breaking(SHOP, sales), breaking_row(SHOP, sales)], [True, sales])

    def test_not_for_all_articles(self):
        # Fewer lamps alone would do, fewer boxes would not, and the other way round.
        self.gives([is_breaking(SHOP, (('box', 1), ('lamp', 6))), is_breaking(SHOP, (('box', 4), ('bulb', 1))),
                    is_breaking(SHOP, (('bulb', 1), ('lamp', 6)))], [False, False, False])
        self.gives([breaking_row(SHOP, (('bulb', 1), ('lamp', 6))), breaking_row(SHOP, (('lamp', 60),)),
                    breaking_row(SHOP, (('box', 1), ('bulb', 2), ('lamp', 7)))],
                   [(('lamp', 6),), (('lamp', 6),), (('lamp', 6),)])

    def test_nothing(self):
        for shop in SHOPS:
            self.gives([breaking_row(shop, ()), is_breaking(shop, ())], [None, False])

    def test_an_article_of_which_there_is_none(self):
        shop = ((('pa', 0), ('pb', 1)), (), (('ka', 0, True, (('pa', 1),)),))
        self.gives([breaking_row(shop, (('pa', 1), ('pb', 1))), is_breaking(shop, (('ka', 1),)),
                    is_breaking(shop, (('ka', 2),))],
                   [(('pa', 1),), True, False])

    def test_alone_together(self):
        for shop in SHOPS + [DEEP]:
            sales = row((article, alone(shop, article)) for article in articles(shop))
            self.gives(alone_together(shop), holds(shop, sales))

    def test_by_name(self):
        self.gives([breaking_row(shop=SHOP, sales=()), is_breaking(shop=SHOP, sales=()), alone_together(shop=SHOP)],
                   [None, False, False])

    def test_refusals(self):
        for wrong in WRONG_ROWS:
            self.refuses('sales', breaking_row, SHOP, wrong)
            self.refuses('sales', is_breaking, SHOP, wrong)


class Consequences(Case):
    SMALL = some_shops(60, 22, parts=2, choices=1, packs=2, stock=2, made=1)

    def test_one_article_or_several(self):
        seen = set()
        for shop in self.SMALL:
            for sales in rows_to(shop, 3):
                if is_breaking(shop, sales):
                    alones = [alone(shop, article) for article, _ in sales]
                    if len(sales) == 1:
                        self.assertEqual(sales[0][1], alones[0] + 1)
                    else:
                        self.assertTrue(all(number <= most for (_, number), most in zip(sales, alones)))
                    seen.add(len(sales))
        self.assertLessEqual({1, 2, 3}, seen)

    def test_below_each_row_that_does_not_hold(self):
        for shop in self.SMALL:
            breaking = [dict(sales) for sales in rows_to(shop, 3) if is_breaking(shop, sales)]
            for sales in list(rows_to(shop, 3))[::5]:
                below = [one for one in breaking if all(number <= dict(sales).get(name, 0) for name,
                                                        number in one.items())]
                self.assertEqual(not holds(shop, sales), bool(below))

    def test_together_if_nothing_can_be_built_or_taken_apart(self):
        together = {}
        for shop in some_shops(150, 23, choices=2, packs=2, stock=1, made=1) + SHOPS:
            possible = any(after(shop, pieces(shop), deed) for deed in deeds_of(shop) if deed[0] != 'sell')
            self.gives(alone_together(shop), not possible)
            together[possible] = together.get(possible, 0) + 1
            if not possible:
                for article, number in pieces(shop).items():
                    self.assertEqual(alone(shop, article), number)
        self.assertGreater(min(together[True], together[False]), 20)


class Examples(Case):

    def test_of_the_document(self):
        # Any row that breaks: of this one there is only one.
        self.gives([breaking_row(SHOP, (('box', 3), ('plug', 1), ('trio', 2))),
                    breaking_row(SHOP, (('box', 3), ('trio', 1)))],
                   [(('box', 3), ('trio', 2)), None])
        self.gives([is_breaking(SHOP, (('box', 3), ('lamp', 2))), is_breaking(SHOP, (('box', 4), ('lamp', 1))),
                    is_breaking(SHOP, (('lamp', 6),))], [True, False, True])
        self.gives([alone_together(SHOP), alone_together((PARTS, CHOICES, ()))], [False, True])


if __name__ == '__main__':
    unittest.main()
