"""Stocks told back: [47], [57], [58]."""

import unittest

from kitsleft.tellback import stocks_behind

from tests.cases import Case
from tests.sheets import NO_SHEETS, NO_SHOWN, SHEETS, SHOWN, all_that_fit, parts_of_sheets, some_sheets


class Behind(Case):

    def test_against_all_stocks(self):
        told = {'none': 0, 'some': 0, 'no greatest': 0, 'several': 0}
        for sheets, shown in some_sheets(400, 301) + some_sheets(200, 302, parts=2, packs=4, shown=3):
            found, bound = all_that_fit(sheets, shown)
            result = stocks_behind(sheets, shown)
            if not found:
                told['none'] += 1
                self.gives(result, None)
                continue
            told['some'] += 1
            wanted = []
            for part in parts_of_sheets(sheets):
                stocks = [stocks[part] for stocks in found]
                # Above the bound there is no difference any more.
                wanted.append((part, min(stocks), None if max(stocks) == bound else max(stocks)))
                told['no greatest'] += wanted[-1][2] is None
                told['several'] += wanted[-1][2] is not None and wanted[-1][2] > wanted[-1][1]
            self.gives(result, tuple(wanted))
        self.assertGreater(min(told.values()), 60)

    def test_one_pack(self):
        one = (('duo', (('lamp', 3),)),)
        self.gives([stocks_behind(one, (('duo', number),)) for number in (0, 1, 20)],
                   [(('lamp', 0, 2),), (('lamp', 3, 5),), (('lamp', 60, 62),)])
        two = (('duo', (('lamp', 3), ('plug', 1))),)
        self.gives([stocks_behind(two, (('duo', number),)) for number in (0, 2)],
                   [(('lamp', 0, None), ('plug', 0, None)), (('lamp', 6, None), ('plug', 2, None))])

    def test_nought(self):
        self.gives(stocks_behind(SHEETS, (('duo', 0), ('trio', 0))), (('lamp', 0, 1), ('plug', 0, None)))
        self.gives(stocks_behind(SHEETS, (('duo', 0), ('trio', 1))), (('lamp', 1, 1), ('plug', 2, None)))
        self.gives(stocks_behind(SHEETS, (('duo', 0), ('trio', 2))), None)

    def test_a_pack_that_leaves_all_to_another_part(self):
        # Plugs are scarce already; if lamps are not for duo, no greatest stock is left to tell of them by trio.
        self.gives(stocks_behind(SHEETS, (('duo', 3), ('trio', 2))), (('lamp', 6, 7), ('plug', 4, 5)))
        three = (('ka', (('pa', 1), ('pb', 1))), ('kb', (('pb', 1), ('pc', 1))), ('kc', (('pa', 1), ('pc', 1))))
        self.gives(stocks_behind(three, (('ka', 1), ('kb', 1), ('kc', 1))),
                   (('pa', 1, None), ('pb', 1, None), ('pc', 1, None)))
        self.gives(stocks_behind(three, (('ka', 1), ('kb', 2), ('kc', 1))),
                   (('pa', 1, 1), ('pb', 2, None), ('pc', 2, None)))
        self.gives(stocks_behind(three, (('ka', 1), ('kb', 2), ('kc', 3))), None)

    def test_great_numbers(self):
        many = 10 ** 59
        self.gives(stocks_behind(SHEETS, (('duo', many), ('trio', 2 * many))),
                   (('lamp', 2 * many, 2 * many + 1), ('plug', 4 * many, None)))
        self.gives(stocks_behind(SHEETS, (('duo', many), ('trio', 2 * many + 1))),
                   (('lamp', 2 * many + 1, 2 * many + 1), ('plug', 4 * many + 2, None)))
        self.gives(stocks_behind(SHEETS, (('duo', many), ('trio', 2 * many + 2))), None)

    def test_refusals(self):
        for wrong in NO_SHEETS:
            self.refuses('sheets', stocks_behind, wrong, SHOWN)
            self.refuses('sheets', stocks_behind, wrong, None)
        for wrong in NO_SHOWN:
            self.refuses('shown', stocks_behind, SHEETS, wrong)
        self.refuses('shown', stocks_behind, SHEETS[:1], SHOWN)
        self.gives(stocks_behind(SHEETS[:1], SHOWN[:1]), (('lamp', 4, 5),))

    def test_by_name(self):
        self.gives(stocks_behind(sheets=SHEETS, shown=SHOWN), (('lamp', 4, 5), ('plug', 6, 7)))


class Examples(Case):

    def test_of_the_document(self):
        self.gives([stocks_behind(SHEETS, (('duo', 2), ('trio', 3))), stocks_behind(SHEETS, (('duo', 0), ('trio', 0))),
                    stocks_behind(SHEETS, (('duo', 1), ('trio', 5)))],
                   [(('lamp', 4, 5), ('plug', 6, 7)), (('lamp', 0, 1), ('plug', 0, None)), None])


if __name__ == '__main__':
    unittest.main()
