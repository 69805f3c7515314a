"""Papers that a row holds, or not: [28] to [30]."""

import unittest
from itertools import combinations, product

from kitsleft.errors import InvalidPaper
from kitsleft.holdchecker import lets_hold
from kitsleft.holdpapers import hold_paper
from kitsleft.holds import is_held, overasked

from tests.cases import Case
from tests.oracle import holds, netting, rows_to, shorts
from tests.samples import CHOICES, DEEP, NOTHINGS, PACKS, PARTS, SHARED, SHOP, STIFF, some_rows, some_shops

SHOPS = some_shops(250, 221, choices=3, packs=4, stock=5) + [SHOP, STIFF, DEEP, SHARED, (PARTS, (), ())]


class Papers(Case):

    def is_paper_of(self, shop, sales, paper):
        """The paper has the form [28] of what is true of the row, and is accepted."""
        self.assertIs(type(paper), tuple)
        self.assertEqual(paper[0], 'held' if holds(shop, sales) else 'short')
        self.assertEqual([type(part) for part in paper[1:]], [tuple] * (2 if paper[0] == 'held' else 1))
        for row in [row for rows in paper[1:] for row in rows]:
            self.assertIs(type(row), tuple)
            self.assertIs(type(row[-1]), int)
        self.gives(lets_hold(shop, sales, paper), holds(shop, sales))
        self.gives(lets_hold(shop, sales, paper), is_held(shop, sales))

    def test_each_row_has_one(self):
        # For so many choices how often each form was told, and how many choices asked too much together.
        forms, together, lacking = {}, {}, 0
        for at, shop in enumerate(SHOPS):
            for sales in [(), *some_rows(shop, 16, at, most=4)]:
                paper = hold_paper(shop, sales)
                self.is_paper_of(shop, sales, paper)
                key = (len(shop[1]), paper[0])
                forms[key] = forms.get(key, 0) + 1
                if paper[0] == 'short':
                    many = len(overasked(shop, sales)[0])
                    lacking += min(netting(shop, sales)[2].values()) < 0
                    together[many] = together.get(many, 0) + 1
        self.assertEqual(sorted(forms), [(many, form) for many in range(4) for form in ('held', 'short')])
        self.assertGreater(min(forms.values()), 50)
        self.assertGreater(min(together[0], together[1], lacking), 30)

    def test_choices_that_share_parts(self):
        pairs, together = list(combinations(('pa', 'pb', 'pc'), 2)) + [('pa', 'pb', 'pc')], {}
        packs = tuple((f'k{letter}', 0, False, (('c' + letter, 1),)) for letter in 'abc')
        for some in product(pairs, repeat=3):
            shop = ((('pa', 1), ('pb', 2), ('pc', 1)), tuple(zip(('ca', 'cb', 'cc'), some)), packs)
            for numbers in product(range(4), repeat=3):
                sales = tuple((pack[0], number) for pack, number in zip(packs, numbers) if number)
                self.is_paper_of(shop, sales, hold_paper(shop, sales))
                short = overasked(shop, sales)
                many = len(short[0]) if short else 0
                together[many] = together.get(many, 0) + 1
        self.assertEqual(sorted(together), [0, 1, 2, 3])
        self.assertGreater(min(together.values()), 100)

    def test_choices_that_ask_too_much_together(self):
        both = ((('pa', 2), ('pb', 1)), (('ca', ('pa', 'pb')), ('cb', ('pa', 'pb'))),
                (('ka', 0, False, (('ca', 1),)), ('kb', 0, False, (('cb', 1),))))
        for shop, sales, many in ((SHARED, (('ka', 2), ('kb', 1), ('kc', 1)), 3),
                                  (SHARED, (('ka', 1), ('kb', 1), ('kc', 1), ('pa', 1)), 3),
                                  (both, (('ka', 2), ('kb', 2)), 2), (both, (('ka', 2), ('kb', 1), ('pb', 1)), 2),
                                  (SHARED, (('ka', 3),), 1), (SHARED, (('pa', 2),), 0)):
            self.assertEqual(len(shorts(shop, sales)[0][0]) if many else 0, many)
            self.gives(lets_hold(shop, sales, hold_paper(shop, sales)), False)
            self.is_paper_of(shop, sales, hold_paper(shop, sales))

    def test_all_small_rows(self):
        for shop in (SHARED, (PARTS[:2], CHOICES, (('kit', 1, False, (('bulb', 1), ('light', 2))),))):
            for sales in rows_to(shop, 2):
                self.is_paper_of(shop, sales, hold_paper(shop, sales))

    def test_packs_of_each_kind_within_each_other(self):
        # What lacks is deep within; some of what is around it is made up already, or comes apart.
        def shop(*kinds):
            (made_a, apart_a), (made_b, apart_b), (made_c, apart_c) = kinds
            return ((('pa', 5), ('pb', 20)), (), (('ka', made_a, apart_a, (('kb', 2), ('pb', 1))),
                                                  ('kb', made_b, apart_b, (('kc', 2),)),
                                                  ('kc', made_c, apart_c, (('pa', 1), ('pb', 1)))))
        kinds = [(made, apart) for made in (0, 1, 3) for apart in (False, True)]
        both = set()
        for first in kinds:
            for second in kinds:
                for third in kinds:
                    some = shop(first, second, third)
                    for sales in ((), (('ka', 1),), (('ka', 4),), (('kb', 3), ('kc', 2)), (('pa', 6),),
                                  (('ka', 2), ('kb', 1), ('kc', 3)), (('ka', 3), ('pa', 9)), (('kc', 9),)):
                        both.add(hold_paper(some, sales)[0])
                        self.is_paper_of(some, sales, hold_paper(some, sales))
        self.assertEqual(both, {'held', 'short'})

    def test_great_numbers(self):
        shop = ((('pa', 60), ('pb', 60)), (('ca', ('pa', 'pb')),),
                (('ka', 60, False, (('kb', 4),)), ('kb', 60, False, (('kc', 4),)), ('kc', 60, False, (('kd', 4),)),
                 ('kd', 60, False, (('ca', 4), ('pa', 4)))))
        for sales in ((('ka', 60),), (('ka', 61),), (('ka', 60), ('kb', 60), ('kc', 60), ('kd', 60)), (('kd', 75),)):
            self.is_paper_of(shop, sales, hold_paper(shop, sales))

    def test_nothing_is_asked(self):
        empty = ((('pa', 0),), (), (('ka', 0, True, (('pa', 1),)),))
        self.is_paper_of(empty, (), hold_paper(empty, ()))
        self.is_paper_of(empty, (('ka', 1),), hold_paper(empty, (('ka', 1),)))

    def test_no_rows(self):
        for wrong in NOTHINGS + ((('light', 1),), (('lamp', 1), ('box', 1)), 0, 'lamp'):
            self.refuses('sales', hold_paper, SHOP, wrong)

    def test_by_name(self):
        self.gives(lets_hold(STIFF, (('pair', 2),), hold_paper(shop=STIFF, sales=(('pair', 2),))), True)


class Consequences(Case):

    def test_a_paper_of_one_form_is_none_of_another_row(self):
        glued = (PARTS, CHOICES, (PACKS[0], ('trio', 1, False, PACKS[1][3])))
        for shop in (SHOP, glued, SHARED, DEEP):
            rows = some_rows(shop, 40, 5, most=4)
            papers = [hold_paper(shop, sales) for sales in rows]
            for sales in rows:
                for paper in papers:
                    try:
                        told = lets_hold(shop, sales, paper)
                    except InvalidPaper:
                        continue
                    self.gives(told, holds(shop, sales))

    def test_more_sales_and_prices_doubled(self):
        for at, shop in enumerate(SHOPS[::3]):
            rows = some_rows(shop, 12, at + 9)
            for sales in rows:
                paper = hold_paper(shop, sales)
                if paper[0] == 'short':
                    doubled = ('short', tuple((name, 2 * price) for name, price in paper[1]))
                    for more in rows:
                        both = {name: dict(sales).get(name, 0) + dict(more).get(name, 0) for name, _ in sales + more}
                        self.gives(lets_hold(shop, tuple(sorted(both.items())), paper), False)
                        self.gives(lets_hold(shop, tuple(sorted(both.items())), doubled), False)


class Examples(Case):

    def test_of_the_document(self):
        self.gives(lets_hold(SHOP, (('box', 4),), hold_paper(SHOP, (('box', 4),))), False)


if __name__ == '__main__':
    unittest.main()
