"""The netting: [23] to [25], with the one of [6]."""

import unittest

from kitsleft.netting import netted

from tests.cases import Case
from tests.oracle import articles, netting, plus
from tests.samples import CHOICES, DEEP, NOTHINGS, PACKS, PARTS, SHARED, SHOP, STIFF, some_rows, some_shops

SHOPS = some_shops(120, 201, choices=3, packs=4, stock=4) + [SHOP, STIFF, DEEP, SHARED, (PARTS, CHOICES, ()),
                                                             (PARTS, (), ())]
NO_ROWS = NOTHINGS + ((('light', 1),), (('lamp', 1), ('box', 1)), (('box', 1), ('box', 2)), [('lamp', 1)], 0, 'lamp')


def sets_of_netting(shop, sales):
    """The three sets of the netting, from the definition."""
    turns, asked, left = netting(shop, sales)
    return tuple(tuple(sorted(table.items())) for table in (turns, asked, left))


class Netted(Case):

    def test_against_the_definition(self):
        below = {'turns': 0, 'left': 0}
        for at, shop in enumerate(SHOPS):
            for sales in [(), *some_rows(shop, 25, at)]:
                result = netted(shop, sales)
                self.gives(result, sets_of_netting(shop, sales))
                below['turns'] += min([turn for _, turn in result[0]], default=0) < 0
                below['left'] += min(left for _, left in result[2]) < 0
        self.assertGreater(below['turns'], 500)
        self.assertGreater(below['left'], 500)

    def test_what_is_told_of_whom(self):
        turns, asked, left = netted(SHARED, (('ka', 1), ('pb', 2)))
        self.gives(turns, (('ka', 1), ('kb', 0), ('kc', 0)))
        self.gives(asked, (('ca', 1), ('cb', 0), ('cc', 0), ('pa', 0), ('pb', 2), ('pc', 0)))
        self.gives(left, (('pa', 1), ('pb', -1), ('pc', 1)))

    def test_without_packs_and_choices(self):
        self.gives(netted((PARTS, (), ()), (('lamp', 6),)),
                   ((), (('bulb', 0), ('candle', 0), ('lamp', 6), ('plug', 0)),
                    (('bulb', 2), ('candle', 1), ('lamp', -2), ('plug', 5))))

    def test_the_empty_row(self):
        # Nothing is sold: all trios are taken apart, and no box.
        self.gives(netted(SHOP, ()),
                   ((('box', 0), ('trio', -1)),
                    (('bulb', 0), ('candle', 0), ('lamp', -1), ('light', 0), ('plug', -2)),
                    (('bulb', 2), ('candle', 1), ('lamp', 5), ('plug', 7))))

    def test_left_below_nought(self):
        self.gives(netted(SHOP, (('box', 4), ('bulb', 9)))[2],
                   (('bulb', -7), ('candle', 1), ('lamp', -1), ('plug', 1)))

    def test_turns_below_nought(self):
        def kit(apart):
            return ((('pa', 3),), (), (('kit', 4, apart, (('pa', 2),)),))
        self.gives(netted(kit(True), (('kit', 1), ('pa', 1))), ((('kit', -3),), (('pa', -5),), (('pa', 8),)))
        self.gives(netted(kit(False), (('kit', 1), ('pa', 1))), ((('kit', 0),), (('pa', 1),), (('pa', 2),)))
        self.gives([netted(kit(apart), (('kit', 4),))[0] for apart in (True, False)], [(('kit', 0),)] * 2)
        self.gives([netted(kit(apart), (('kit', 6),))[0] for apart in (True, False)], [(('kit', 2),)] * 2)

    def test_packs_within_packs(self):
        # A row of names that is not the order of the packs: ka is in kc, kc in kb.
        def shop(*apart):
            return ((('pa', 9),), (), (('ka', 1, apart[0], (('pa', 3),)), ('kb', 2, apart[1], (('kc', 2), ('pa', 1))),
                                       ('kc', 1, apart[2], (('ka', 2),))))
        self.gives(netted(shop(True, True, True), ()),
                   ((('ka', -11), ('kb', -2), ('kc', -5)), (('pa', -35),), (('pa', 44),)))
        self.gives(netted(shop(True, False, True), ()),
                   ((('ka', -3), ('kb', 0), ('kc', -1)), (('pa', -9),), (('pa', 18),)))
        self.gives(netted(shop(True, True, False), ()),
                   ((('ka', -1), ('kb', -2), ('kc', 0)), (('pa', -5),), (('pa', 14),)))
        self.gives(netted(shop(False, False, False), (('kb', 3), ('kc', 1))),
                   ((('ka', 3), ('kb', 1), ('kc', 2)), (('pa', 10),), (('pa', -1),)))
        self.gives(netted(DEEP, (('crate', 2),))[0], (('case', -3), ('crate', 1), ('kit', 0), ('wrap', -2)))

    def test_a_choice_in_two_packs(self):
        shop = (PARTS, CHOICES, (('ka', 1, False, (('light', 3),)), ('kb', 0, False, (('ka', 1), ('light', 2)))))
        self.gives(netted(shop, (('ka', 1), ('kb', 2)))[1:],
                   ((('bulb', 0), ('candle', 0), ('lamp', 0), ('light', 10), ('plug', 0)), PARTS))

    def test_the_sixty_first_piece(self):
        shop = ((('pa', 60),), (), (('ka', 60, True, (('pa', 4),)),))
        self.gives(netted(shop, (('ka', 61), ('pa', 60))), ((('ka', 1),), (('pa', 64),), (('pa', -4),)))
        self.gives(netted(shop, (('ka', 60), ('pa', 61))), ((('ka', 0),), (('pa', 61),), (('pa', -1),)))

    def test_no_rows(self):
        for wrong in NO_ROWS:
            self.refuses('sales', netted, SHOP, wrong)
        self.gives(netted(STIFF, (('lamp', 1),))[0], (('pair', 0),))
        self.refuses('sales', netted, STIFF, (('box', 1),))

    def test_by_name(self):
        self.gives(netted(shop=STIFF, sales=()), netted(STIFF, ()))


class Consequences(Case):

    def test_what_is_at_least_nought(self):
        for at, shop in enumerate(SHOPS):
            stiff, choices = [pack[0] for pack in shop[2] if not pack[2]], [choice[0] for choice in shop[1]]
            for sales in [(), *some_rows(shop, 15, at)]:
                turns, asked, _ = netted(shop, sales)
                for name, number in turns + asked:
                    self.assertTrue(number >= 0 or name not in stiff + choices)

    def test_one_piece_more(self):
        for at, shop in enumerate(SHOPS):
            for sales in some_rows(shop, 4, at + 300):
                less = netted(shop, sales)
                for article in articles(shop):
                    more = netted(shop, plus(sales, article, 1))
                    for early, late in zip(less[0] + less[1], more[0] + more[1]):
                        self.assertLessEqual(early, late)
                    for early, late in zip(less[2], more[2]):
                        self.assertGreaterEqual(early, late)


class Examples(Case):

    def test_of_the_document(self):
        self.gives(netted(SHOP, (('box', 2), ('trio', 1))),
                   ((('box', 1), ('trio', 1)),
                    (('bulb', 0), ('candle', 0), ('lamp', 2), ('light', 1), ('plug', 2)),
                    (('bulb', 2), ('candle', 1), ('lamp', 2), ('plug', 3))))
        self.gives([netted(SHOP, ())[0], netted(SHOP, ())[2][2:]],
                   [(('box', 0), ('trio', -1)), (('lamp', 5), ('plug', 7))])


if __name__ == '__main__':
    unittest.main()
