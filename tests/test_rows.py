"""Greatest rows: [35], [41], [42], [44]."""

import random
import unittest
from itertools import combinations

from kitsleft.alone import alone_of
from kitsleft.holds import is_held
from kitsleft.rows import count_rows, greatest_rows, row_above

from tests.cases import Case
from tests.oracle import articles, at_most, held_rows, rows_to
from tests.samples import DEEP, NOTHINGS, SHARED, SHOP, STIFF, some_rows, some_shops

TWO = ('box', 'trio')
WRONG_NAMES = NOTHINGS + ((), ('light',), ('box', 'box'), ('trio', 'box'), ('box', 'light'), ('box', None), ('box', 1),
                          ['box'], (['box'],), 'box', ('box', 'nosuch'), ('box', ('trio',)))
# ('box',) is no row, but fine as names.
WRONG_NAMES = tuple(wrong for wrong in WRONG_NAMES if wrong not in (('box',), ('lamp',)))


def some_names(shops, seed):
    """Each shop with some one, two and three of its articles."""
    rng = random.Random(seed)
    for shop in shops:
        for many in (1, 2, 3):
            names = list(combinations(articles(shop), many))
            for some in rng.sample(names, min(2, len(names))):
                yield shop, some


def greatest(held):
    """The rows that are at most no other one, by comparing all of them."""
    return tuple(sorted(sales for sales in held if not any(sales != other and at_most(sales, other) for other in held)))


SHOPS = some_shops(40, 91, choices=2, packs=3, stock=3, made=1, count=2)
SOME = list(some_names(SHOPS, 92)) + list(some_names([SHARED], 93))
HELD = [(shop, names, held_rows(shop, names)) for shop, names in SOME]


class Greatest(Case):

    def test_against_all_rows(self):
        several = 0
        for shop, names, held in HELD:
            result = greatest_rows(shop, names)
            self.gives(result, greatest(held))
            several += len(result) > 2
        self.assertGreater(several, 20)

    def test_one_article(self):
        for shop in SHOPS + [DEEP, STIFF]:
            for article in articles(shop):
                most = alone_of(shop, article)
                self.gives(greatest_rows(shop, (article,)), (((article, most),),) if most else ((),))
                self.gives(count_rows(shop, (article,)), most + 1)

    def test_nothing_can_be_sold(self):
        shop = ((('pa', 0), ('pb', 0)), (), (('ka', 0, True, (('pa', 1),)),))
        self.gives([greatest_rows(shop, ('ka', 'pa', 'pb')), count_rows(shop, ('ka', 'pa', 'pb'))], [((),), 1])
        self.gives([row_above(shop, ('ka',), ()), row_above(shop, ('ka',), (('ka', 1),))], [(), None])

    def test_a_name_that_cannot_be_sold(self):
        shop = ((('pa', 0), ('pb', 2)), (), ())
        self.gives([greatest_rows(shop, ('pa', 'pb')), count_rows(shop, ('pa', 'pb'))], [((('pb', 2),),), 3])
        shop = ((('pa', 2), ('pb', 0)), (), ())
        self.gives([greatest_rows(shop, ('pa', 'pb')), count_rows(shop, ('pa', 'pb'))], [((('pa', 2),),), 3])

    def test_a_step_amid(self):
        # A soft pair gives two of its part: numbers in between add nothing for the pack.
        shop = ((('pa', 5),), (), (('ka', 0, True, (('pa', 2),)),))
        self.gives(greatest_rows(shop, ('ka', 'pa')),
                   ((('ka', 1), ('pa', 3)), (('ka', 2), ('pa', 1)), (('pa', 5),)))
        self.gives(count_rows(shop, ('ka', 'pa')), 6 + 4 + 2)

    def test_three_names_of_twelve(self):
        shop = ((('pa', 12), ('pb', 12), ('pc', 12)), (), ())
        self.gives(greatest_rows(shop, ('pa', 'pb', 'pc')), ((('pa', 12), ('pb', 12), ('pc', 12)),))
        self.gives(count_rows(shop, ('pa', 'pb', 'pc')), 13 ** 3)
        shop = ((('pa', 12),), (), tuple((name, 0, False, (('pa', 1),)) for name in ('ka', 'kb', 'kc')))
        # As many as there are ways to share at most twelve among three: (15 over 3), of just twelve: (14 over 2).
        self.gives([count_rows(shop, ('ka', 'kb', 'kc')), len(greatest_rows(shop, ('ka', 'kb', 'kc')))], [455, 91])

    def test_a_row_holds_if_it_is_at_most_one_of_them(self):
        for shop, names, _ in HELD[::4]:
            tops = greatest_rows(shop, names)
            for sales in list(rows_to(shop, 2))[::3]:
                if {article for article, _ in sales} <= set(names):
                    self.assertEqual(is_held(shop, sales), any(at_most(sales, top) for top in tops))

    def test_refusals(self):
        for wrong in WRONG_NAMES:
            self.refuses('names', greatest_rows, SHOP, wrong)
            self.refuses('names', count_rows, SHOP, wrong)
            self.refuses('names', row_above, SHOP, wrong, ())
            self.refuses('names', row_above, SHOP, wrong, wrong)

    def test_by_name(self):
        self.gives([greatest_rows(shop=SHOP, names=('lamp',)), count_rows(shop=SHOP, names=('lamp',)),
                    row_above(shop=SHOP, names=('lamp',), sales=())], [((('lamp', 5),),), 6, (('lamp', 5),)])


class Counted(Case):

    def test_against_all_rows(self):
        for shop, names, held in HELD:
            self.gives(count_rows(shop, names), len(held))


class Above(Case):

    def test_against_all_rows(self):
        found = 0
        for shop, names, held in HELD:
            tops = greatest(held)
            for sales in some_rows(shop, 15, 94, most=2) + held[::3]:
                above = [top for top in tops if at_most(sales, top)]
                result = row_above(shop, names, sales)
                if above:
                    found += 1
                    self.assertIn(result, above)
                    self.assertIs(type(result), tuple)
                else:
                    self.assertIsNone(result)
        self.assertGreater(found, 500)

    def test_another_article(self):
        self.gives(row_above(SHOP, TWO, (('lamp', 1),)), None)
        self.gives(row_above(SHOP, TWO, (('box', 1), ('lamp', 1))), None)
        self.gives(row_above(SHOP, ('box', 'lamp', 'trio'), (('box', 1), ('lamp', 1))) is None, False)

    def test_itself(self):
        for top in greatest_rows(SHOP, TWO):
            self.gives(row_above(SHOP, TWO, top), top)

    def test_too_much(self):
        self.gives([row_above(SHOP, TWO, (('box', 4),)), row_above(SHOP, TWO, (('box', 3), ('trio', 2)))], [None, None])

    def test_refusals(self):
        for wrong in NOTHINGS + ((('light', 1),), (('trio', 1), ('box', 1)), (('box', 0),), 'box', 0):
            self.refuses('sales', row_above, SHOP, TWO, wrong)


class Examples(Case):

    def test_of_the_document(self):
        self.gives(greatest_rows(SHOP, TWO),
                   ((('box', 1), ('trio', 3)), (('box', 2), ('trio', 2)), (('box', 3), ('trio', 1))))
        self.gives([count_rows(SHOP, TWO), row_above(SHOP, TWO, (('box', 3),)), row_above(SHOP, TWO, (('lamp', 1),))],
                   [13, (('box', 3), ('trio', 1)), None])


if __name__ == '__main__':
    unittest.main()
