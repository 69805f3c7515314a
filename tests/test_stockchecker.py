"""The checker of papers of stocks: [47], [57], [59], with [10]."""

import random
import unittest
from itertools import product

from kitsleft.errors import InvalidPaper
from kitsleft.stockchecker import lets_stocks

from tests.cases import Case
from tests.samples import DEEPLY, NOTHINGS
from tests.sheets import NO_SHEETS, NO_SHOWN, SHEETS, SHOWN, all_that_fit, fit, parts_of_sheets, some_sheets

STOCKS = (('lamp', 4), ('plug', 7))
FIT = ('fit', STOCKS)
# So few duos and so many trios there cannot be.
NONE_SHOWN = (('duo', 1), ('trio', 5))
NONE = ('none', 'duo', (('lamp', 'trio'),))
# For kb there is enough of each of its three parts, by ka, kc and kd.
WIDE = (('ka', (('pa', 2), ('pb', 1))), ('kb', (('pa', 1), ('pb', 1), ('pc', 3))), ('kc', (('pb', 3),)),
        ('kd', (('pc', 2),)))
WIDE_SHOWN = (('ka', 2), ('kb', 1), ('kc', 1), ('kd', 3))
CAUSES = (('pa', 'ka'), ('pb', 'kc'), ('pc', 'kd'))
WIDE_NONE = ('none', 'kb', CAUSES)


def changed(rows, at, *other):
    """The tuple with others at this place instead."""
    return rows[:at] + other + rows[at + 1:]


class Accepted(Case):

    def test_stocks_that_fit(self):
        for stocks in ((4, 6), (4, 7), (5, 6), (5, 7)):
            self.gives(lets_stocks(SHEETS, SHOWN, ('fit', tuple(zip(('lamp', 'plug'), stocks)))), True)
        # No greatest stock.
        for plugs in (0, 1, 10 ** 60):
            self.gives(lets_stocks(SHEETS, (('duo', 0), ('trio', 0)), ('fit', (('lamp', 0), ('plug', plugs)))), True)

    def test_causes(self):
        self.gives(lets_stocks(SHEETS, NONE_SHOWN, NONE), False)
        self.gives(lets_stocks(WIDE, WIDE_SHOWN, WIDE_NONE), False)
        # Just enough, by count times shown; another cause is as good.
        self.gives(lets_stocks(SHEETS, (('duo', 1), ('trio', 4)), NONE), False)
        self.gives(lets_stocks(WIDE, (('ka', 2), ('kb', 1), ('kc', 1), ('kd', 3)),
                               ('none', 'kb', (('pa', 'ka'), ('pb', 'ka'), ('pc', 'kd')))), False)

    def test_by_name(self):
        self.gives([lets_stocks(sheets=SHEETS, shown=SHOWN, thing=FIT),
                    lets_stocks(sheets=SHEETS, shown=NONE_SHOWN, thing=NONE)], [True, False])


class Refused(Case):

    def no(self, word, at, sheets, shown, thing):
        """This one is refused so."""
        self.raises(InvalidPaper, {'word': word, 'at': at}, lets_stocks, sheets, shown, thing)

    def test_parameters(self):
        for wrong in NO_SHEETS:
            self.refuses('sheets', lets_stocks, wrong, SHOWN, FIT)
            self.refuses('sheets', lets_stocks, wrong, None, None)
        for wrong in NO_SHOWN:
            self.refuses('shown', lets_stocks, SHEETS, wrong, FIT)
            self.refuses('shown', lets_stocks, SHEETS, wrong, None)

    def test_shape(self):
        for wrong in NOTHINGS + ((), ('fit',), ('none',), ('fit', STOCKS, ()), ('none', 'duo'), ('none', STOCKS),
                                 ('fit', 'duo', STOCKS), ('none', 'duo', CAUSES, ()), list(FIT), list(NONE),
                                 ('fit', list(STOCKS)), ('none', 'duo', list(NONE[2])), ('Fit', STOCKS), (True, STOCKS),
                                 (None, STOCKS), (['fit'], STOCKS), (('none',), 'duo', ()), ('fit', None), ('fit', 'x'),
                                 ('none', 'duo', None), ('none', 'duo', 'lamp'), STOCKS, (FIT,), 'fit', 'none', 0):
            self.no('shape', -1, SHEETS, SHOWN, wrong)

    def test_stock(self):
        for at, (part, number) in enumerate(STOCKS):
            self.no('stock', at, SHEETS, SHOWN, ('fit', STOCKS[:at]))
            wrong = [None, True, number, part, (), (part,), (part, number, 0), [part, number], (number, part),
                     (None, number), ([part], number), ('nosuch', number), STOCKS[1 - at], (part, -1), (part, True),
                     (part, False), (part, str(number)), (part, None), (part, (number,)), ('duo', number), DEEPLY]
            for other in wrong:
                self.no('stock', at, SHEETS, SHOWN, ('fit', changed(STOCKS, at, other)))
        self.no('stock', 0, SHEETS, SHOWN, ('fit', STOCKS[::-1]))
        self.no('stock', 0, SHEETS, SHOWN, ('fit', ()))

    def test_more_stocks(self):
        for more in (STOCKS[1:], (('zz', 0),), (None,), (('zz', 0), None)):
            self.no('more', -1, SHEETS, SHOWN, ('fit', STOCKS + more))

    def test_less(self):
        self.no('less', 0, SHEETS, SHOWN, ('fit', (('lamp', 3), ('plug', 6))))
        self.no('less', 1, SHEETS, SHOWN, ('fit', (('lamp', 4), ('plug', 5))))
        self.no('less', 1, SHEETS, (('duo', 1), ('trio', 4)), ('fit', (('lamp', 3), ('plug', 8))))
        self.no('less', 0, SHEETS, SHOWN, ('fit', (('lamp', 0), ('plug', 0))))

    def test_fits(self):
        self.no('fits', 0, SHEETS, SHOWN, ('fit', (('lamp', 6), ('plug', 6))))
        self.no('fits', 1, SHEETS, SHOWN, ('fit', (('lamp', 4), ('plug', 8))))
        self.gives(lets_stocks(SHEETS, SHOWN, ('fit', (('lamp', 5), ('plug', 7)))), True)

    def test_pack(self):
        for wrong in NOTHINGS + ('lamp', 'plug', 0, ('duo',), 'Duo', SHEETS, SHEETS[0]):
            self.no('pack', -1, SHEETS, NONE_SHOWN, ('none', wrong, NONE[2]))
            self.no('pack', -1, SHEETS, NONE_SHOWN, ('none', wrong, ()))

    def test_cause(self):
        for at, (part, cause) in enumerate(CAUSES):
            self.no('cause', at, WIDE, WIDE_SHOWN, ('none', 'kb', CAUSES[:at]))
            wrong = [None, True, part, cause, (), (part,), (part, cause, 0), [part, cause], (cause, part), (part, part),
                     (None, cause), (part, None), (part, [cause]), ([part], cause), (part, True), (part, 'nosuch'),
                     CAUSES[at - 1], (part, DEEPLY), DEEPLY]
            for other in wrong:
                self.no('cause', at, WIDE, WIDE_SHOWN, ('none', 'kb', changed(CAUSES, at, other)))
        # A pack whose sheet does not name it; one that wants too little of it; this very pack.
        self.no('cause', 0, WIDE, WIDE_SHOWN, ('none', 'kb', changed(CAUSES, 0, ('pa', 'kc'))))
        self.no('cause', 2, WIDE, WIDE_SHOWN, ('none', 'kb', changed(CAUSES, 2, ('pc', 'kc'))))
        self.no('cause', 1, WIDE, (('ka', 1), *WIDE_SHOWN[1:]), ('none', 'kb', changed(CAUSES, 1, ('pb', 'ka'))))
        for at, (part, _) in enumerate(CAUSES):
            self.no('cause', at, WIDE, WIDE_SHOWN, ('none', 'kb', changed(CAUSES, at, (part, 'kb'))))

    def test_cause_just_not_enough(self):
        self.no('cause', 0, SHEETS, (('duo', 1), ('trio', 3)), NONE)
        self.no('cause', 0, SHEETS, (('duo', 2), ('trio', 5)), NONE)
        self.gives(lets_stocks(SHEETS, (('duo', 2), ('trio', 6)), NONE), False)
        self.no('cause', 0, SHEETS, (('duo', 0), ('trio', 0)), NONE)

    def test_more_causes(self):
        for more in ((('lamp', 'trio'),), (None,), (('plug', 'trio'), None)):
            self.no('more', -1, SHEETS, NONE_SHOWN, ('none', 'duo', NONE[2] + more))

    def test_two_at_once(self):
        self.no('stock', 0, SHEETS, SHOWN, ('fit', (None, None, None)))
        self.no('stock', 1, SHEETS, SHOWN, ('fit', (('lamp', 0), None, None)))
        self.no('more', -1, SHEETS, SHOWN, ('fit', (('lamp', 0), ('plug', 0), None)))
        # All of one pack comes before the next one.
        self.no('less', 0, SHEETS, SHOWN, ('fit', (('lamp', 3), ('plug', 5))))
        self.no('fits', 0, SHEETS, SHOWN, ('fit', (('lamp', 6), ('plug', 5))))
        self.no('less', 1, SHEETS, SHOWN, ('fit', (('lamp', 5), ('plug', 5))))
        self.no('fits', 0, SHEETS, SHOWN, ('fit', (('lamp', 6), ('plug', 8))))
        self.no('pack', -1, SHEETS, SHOWN, ('none', 'lamp', (None, None)))
        self.no('cause', 0, SHEETS, SHOWN, ('none', 'duo', (None, None)))
        self.no('cause', 1, WIDE, WIDE_SHOWN, ('none', 'kb', (CAUSES[0], None, None, None)))

    def test_one_more_part_of_causes_than_the_sheet_has(self):
        self.no('more', -1, WIDE, WIDE_SHOWN, ('none', 'kb', CAUSES + CAUSES[:1]))


class WhatIsTrue(Case):

    def is_accepted(self, sheets, shown, paper):
        try:
            lets_stocks(sheets, shown, paper)
        except InvalidPaper:
            return False
        return True

    def test_stocks_are_accepted_exactly_if_they_fit(self):
        both = [0, 0]
        rng = random.Random(1)
        for sheets, shown in some_sheets(150, 311):
            parts = parts_of_sheets(sheets)
            for _ in range(40):
                stocks = {part: rng.randint(0, 5) for part in parts}
                fits = fit(sheets, shown, stocks)
                both[fits] += 1
                self.assertEqual(self.is_accepted(sheets, shown, ('fit', tuple(stocks.items()))), fits)
        self.assertGreater(min(both), 100)

    def test_causes_are_accepted_for_some_pack_exactly_if_none_fit(self):
        both = [0, 0]
        for sheets, shown in some_sheets(250, 312):
            packs = [pack for pack, _ in sheets]
            some = False
            for pack, sheet in sheets:
                for causes in product(packs, repeat=len(sheet)):
                    paper = ('none', pack, tuple((part, cause) for (part, _), cause in zip(sheet, causes)))
                    some = some or self.is_accepted(sheets, shown, paper)
            both[some] += 1
            self.assertEqual(some, not all_that_fit(sheets, shown)[0])
        self.assertGreater(min(both), 40)


class Examples(Case):

    def test_of_the_document(self):
        self.gives([lets_stocks(SHEETS, (('duo', 1), ('trio', 5)), ('none', 'duo', (('lamp', 'trio'),))),
                    lets_stocks(SHEETS, (('duo', 2), ('trio', 3)), ('fit', (('lamp', 4), ('plug', 7))))], [False, True])
        self.raises(InvalidPaper, {'word': 'fits', 'at': 1}, lets_stocks, SHEETS, (('duo', 2), ('trio', 3)),
                    ('fit', (('lamp', 4), ('plug', 8))))


if __name__ == '__main__':
    unittest.main()
