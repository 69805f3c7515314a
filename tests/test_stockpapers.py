"""Papers of stocks: [47], [57], [59]."""

import unittest

from kitsleft.stockchecker import lets_stocks
from kitsleft.stockpapers import stock_paper
from kitsleft.tellback import stocks_behind

from tests.cases import Case
from tests.sheets import NO_SHEETS, NO_SHOWN, SHEETS, SHOWN, all_that_fit, fit, some_sheets


class Papers(Case):

    def is_paper_of(self, sheets, shown, paper):
        """The paper is accepted, and tells what stocks_behind tells."""
        fits = stocks_behind(sheets, shown) is not None
        self.assertIs(type(paper), tuple)
        self.assertEqual([type(part) for part in paper], [str, tuple] if fits else [str, str, tuple])
        self.assertEqual({type(pair) for pair in paper[-1]}, {tuple})
        self.gives(paper[0], 'fit' if fits else 'none')
        self.gives(lets_stocks(sheets, shown, paper), fits)

    def test_many(self):
        both = [0, 0]
        for sheets, shown in some_sheets(400, 321) + some_sheets(400, 322, parts=4, packs=4, count=3, shown=9):
            paper = stock_paper(sheets, shown)
            self.is_paper_of(sheets, shown, paper)
            both[paper[0] == 'fit'] += 1
            if paper[0] == 'fit':
                self.assertTrue(fit(sheets, shown, dict(paper[1])))
        self.assertGreater(min(both), 150)

    def test_against_all_stocks(self):
        for sheets, shown in some_sheets(150, 323):
            self.gives(stock_paper(sheets, shown)[0], 'fit' if all_that_fit(sheets, shown)[0] else 'none')

    def test_numbers(self):
        for numbers in ((2, 3), (0, 0), (0, 1), (0, 2), (1, 4), (1, 5), (10 ** 59, 2 * 10 ** 59), (10 ** 59, 3)):
            shown = tuple(zip(('duo', 'trio'), numbers))
            self.is_paper_of(SHEETS, shown, stock_paper(SHEETS, shown))

    def test_refusals(self):
        for wrong in NO_SHEETS:
            self.refuses('sheets', stock_paper, wrong, SHOWN)
            self.refuses('sheets', stock_paper, wrong, None)
        for wrong in NO_SHOWN:
            self.refuses('shown', stock_paper, SHEETS, wrong)

    def test_by_name(self):
        self.gives(lets_stocks(SHEETS, SHOWN, stock_paper(sheets=SHEETS, shown=SHOWN)), True)


if __name__ == '__main__':
    unittest.main()
