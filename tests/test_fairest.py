"""The fairest row: [35], [41], [43], [44]."""

import random
import unittest
from fractions import Fraction

from kitsleft.alone import alone_of
from kitsleft.fairest import fairest_row
from kitsleft.rows import greatest_rows

from tests.cases import Case
from tests.samples import NOTHINGS, SHOP
from tests.test_rows import HELD, TWO, WRONG_NAMES


def fairest(names, weights, held):
    """The row with the greatest shares, as the document words it."""
    def worth(sales):
        numbers = [dict(sales).get(name, 0) for name in names]
        return sorted(Fraction(number, weight) for number, weight in zip(numbers, weights)), numbers
    return max(held, key=worth)


def some_weights(many):
    """Weights of so many articles: alike, dividing one another, great and small."""
    rng = random.Random(many)
    yield (1,) * many
    yield (60,) * many
    for _ in range(8):
        yield tuple(rng.choice((1, 2, 3, 4, 6, 7, 59, 60)) for _ in range(many))


def shared(many, *packs):
    """A shop in which packs of these names are built of one part, of which there are so many."""
    return ((('part', many),), (), tuple((name, 0, False, (('part', 1),)) for name in packs))


class Fairest(Case):

    def test_against_all_rows(self):
        for shop, names, held in HELD:
            for weights in some_weights(len(names)):
                self.gives(fairest_row(shop, names, weights), fairest(names, weights, held))

    def test_one_article(self):
        for shop, names, _ in HELD:
            most = alone_of(shop, names[0])
            for weight in (1, 7, 60):
                self.gives(fairest_row(shop, names[:1], (weight,)), ((names[0], most),) if most else ())

    def test_weights_that_divide_alike(self):
        shop = shared(12, 'ka', 'kb')
        for weights, numbers in (((1, 1), (6, 6)), ((2, 2), (6, 6)), ((60, 60), (6, 6)), ((1, 2), (4, 8)),
                                 ((30, 60), (4, 8)), ((2, 1), (8, 4)), ((1, 3), (3, 9)), ((5, 1), (10, 2)),
                                 ((1, 60), (1, 11))):
            self.gives(fairest_row(shop, ('ka', 'kb'), weights), tuple(zip(('ka', 'kb'), numbers)))

    def test_equal_at_first_and_different_later(self):
        # The least share is kc's, whatever there is of the others: what is behind it decides.
        shop = ((('pa', 5), ('pc', 1)), (), (('ka', 0, False, (('pa', 1),)), ('kb', 0, False, (('pa', 1),)),
                                             ('kc', 0, False, (('pc', 1),))))
        self.gives(fairest_row(shop, ('ka', 'kb', 'kc'), (1, 1, 60)), (('ka', 3), ('kb', 2), ('kc', 1)))
        self.gives(fairest_row(shop, ('ka', 'kb', 'kc'), (1, 2, 60)), (('ka', 2), ('kb', 3), ('kc', 1)))
        self.gives(fairest_row(shop, ('ka', 'kb', 'kc'), (4, 1, 60)), (('ka', 4), ('kb', 1), ('kc', 1)))

    def test_equal_shares(self):
        # Of five, two and three are shared alike either way: more of the first name decides.
        self.gives(fairest_row(shared(5, 'ka', 'kb'), ('ka', 'kb'), (1, 1)), (('ka', 3), ('kb', 2)))
        self.gives(fairest_row(shared(5, 'ka', 'kb'), ('ka', 'kb'), (60, 60)), (('ka', 3), ('kb', 2)))
        self.gives(fairest_row(shared(1, 'ka', 'kb'), ('ka', 'kb'), (1, 60)), (('ka', 1),))
        self.gives(fairest_row(shared(4, 'ka', 'kb', 'kc'), ('ka', 'kb', 'kc'), (1, 1, 1)),
                   (('ka', 2), ('kb', 1), ('kc', 1)))

    def test_all_of_names_count(self):
        # A share of 0 is a share, too.
        shop = ((('pa', 3), ('pb', 0)), (), ())
        self.gives(fairest_row(shop, ('pa', 'pb'), (1, 60)), (('pa', 3),))
        self.gives(fairest_row(((('pa', 0),), (), ()), ('pa',), (1,)), ())
        self.gives(fairest_row(shared(2, 'ka', 'kb', 'kc'), ('ka', 'kb', 'kc'), (1, 1, 1)), (('ka', 1), ('kb', 1)))
        self.gives(fairest_row(shared(2, 'ka', 'kb', 'kc'), ('ka', 'kb', 'kc'), (2, 2, 1)), (('ka', 1), ('kc', 1)))

    def test_exact(self):
        # 7/59 is above 7/60 only by a little.
        self.gives(fairest_row(shared(14, 'ka', 'kb'), ('ka', 'kb'), (59, 60)), (('ka', 7), ('kb', 7)))
        self.gives(fairest_row(shared(15, 'ka', 'kb'), ('ka', 'kb'), (59, 60)), (('ka', 7), ('kb', 8)))
        self.gives(fairest_row(shared(15, 'ka', 'kb'), ('ka', 'kb'), (60, 59)), (('ka', 8), ('kb', 7)))

    def test_one_of_the_greatest_and_the_same_with_all_weights_greater(self):
        for shop, names, _ in HELD:
            for weights in list(some_weights(len(names)))[2:5]:
                result = fairest_row(shop, names, weights)
                self.assertIn(result, greatest_rows(shop, names))
                if max(weights) <= 15:
                    self.gives(fairest_row(shop, names, tuple(4 * weight for weight in weights)), result)

    def test_refusals(self):
        for wrong in WRONG_NAMES:
            self.refuses('names', fairest_row, SHOP, wrong, (1, 1))
            self.refuses('names', fairest_row, SHOP, wrong, None)
        for wrong in NOTHINGS + ((), (1, 1, 1), [1, 1], (1, 0), (0, 1), (-1, 1), (1, 61), (61, 1), (1, True), (True, 1),
                                 (1, None), (1, '1'), (1, (1,)), (1, [1]), ([1], 1), ((1, 1),), 1, 0, '11',
                                 10 ** 59, (1, 10 ** 59)):
            self.refuses('weights', fairest_row, SHOP, TWO, wrong)
        self.refuses('weights', fairest_row, SHOP, ('box',), (1, 1))

    def test_by_name(self):
        self.gives(fairest_row(shop=SHOP, names=('lamp',), weights=(60,)), (('lamp', 5),))


class Examples(Case):

    def test_of_the_document(self):
        self.gives([fairest_row(SHOP, TWO, weights) for weights in ((1, 1), (2, 1), (3, 1))],
                   [(('box', 2), ('trio', 2)), (('box', 2), ('trio', 2)), (('box', 3), ('trio', 1))])
        self.refuses('weights', fairest_row, SHOP, TWO, (1,))


if __name__ == '__main__':
    unittest.main()
