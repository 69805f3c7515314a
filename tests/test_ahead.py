"""Building ahead: [47] to [50]."""

import unittest

from kitsleft.ahead import built_ahead, holds_behind, lost_row, parted
from kitsleft.errors import NotPossible
from kitsleft.kinds import is_row

from tests.cases import Case
from tests.oracle import after, holds, pieces, rows_to
from tests.samples import DEEP, NOTHINGS, PACKS, PARTS, SHOP, STIFF, some_shops

SHOPS = some_shops(120, 3, stock=4, made=3)
WRONG_NUMBERS = (None, True, False, -1, -10 ** 59, '', '1', 'lamp', (), (1,), [], [1])
# The pack over has no choice in its sheet, but one in a pack that it contains.
OVER = (PARTS, (('light', ('bulb', 'candle')),), PACKS[:1] + (('over', 0, False, (('box', 1), ('lamp', 1))),
                                                              ) + PACKS[1:])


def plain_packs(shop):
    return [pack for pack in shop[2] if not any(name in dict(shop[1]) for name, _ in pack[3])]


def after_many(shop, deed, number):
    """The shop behind so many of this deed, one by one; None if one is not possible."""
    there = pieces(shop)
    for _ in range(number):
        there = there and after(shop, there, deed)
    return there and (tuple((name, there[name]) for name, _ in shop[0]), shop[1],
                      tuple((name, there[name], apart, sheet) for name, _, apart, sheet in shop[2]))


class Building(Case):

    def test_built_ahead(self):
        self.gives(built_ahead(SHOP, 'trio', 1), ((('bulb', 2), ('candle', 1), ('lamp', 3), ('plug', 3)), SHOP[1],
                                                  (PACKS[0], ('trio', 2, True, PACKS[1][3]))))
        self.gives(built_ahead(SHOP, 'trio', 0), SHOP)
        self.gives(built_ahead(shop=STIFF, pack='pair', number=2),
                   ((('bulb', 2), ('candle', 1), ('lamp', 0), ('plug', 5)), (), (('pair', 2, False, (('lamp', 2),)),)))

    def test_parted(self):
        self.gives(parted(SHOP, 'trio', 1), ((('bulb', 2), ('candle', 1), ('lamp', 5), ('plug', 7)), SHOP[1],
                                             (PACKS[0], ('trio', 0, True, PACKS[1][3]))))
        self.gives([parted(SHOP, 'trio', 0), parted(shop=SHOP, pack='trio', number=0)], [SHOP, SHOP])

    def test_packs_in_sheets(self):
        self.gives(built_ahead(DEEP, 'crate', 1),
                   ((('bolt', 9), ('nut', 7), ('wire', 5)), (),
                    (('case', 1, True, DEEP[2][0][3]), ('crate', 2, False, DEEP[2][1][3]),
                     ('kit', 0, False, DEEP[2][2][3]), ('wrap', 2, True, DEEP[2][3][3]))))
        self.gives(parted(DEEP, 'wrap', 2)[2][0], ('case', 4, True, DEEP[2][0][3]))

    def test_one_by_one(self):
        for shop in SHOPS + [DEEP, SHOP, STIFF, OVER]:
            for name, made, apart, sheet in plain_packs(shop):
                most = min(pieces(shop)[inner] // count for inner, count in sheet)
                for number in range(most + 1):
                    self.gives(built_ahead(shop, name, number),
                               after_many(shop, ('build', name, ((),) * len(sheet)), number))
                for number in (most + 1, most + 2, 10 ** 59):
                    self.raises(NotPossible, {'at': most}, built_ahead, shop, name, number)
                if apart:
                    for number in range(made + 1):
                        self.gives(parted(shop, name, number), after_many(shop, ('apart', name), number))
                    for number in (made + 1, made + 2, 10 ** 59):
                        self.raises(NotPossible, {'at': made}, parted, shop, name, number)

    def test_parted_takes_back(self):
        for shop in SHOPS:
            for name, _, apart, sheet in plain_packs(shop):
                for number in range(min(pieces(shop)[inner] // count for inner, count in sheet) + 1):
                    if apart:
                        self.gives(parted(shop=built_ahead(shop, name, number), pack=name, number=number), shop)


class Refusals(Case):

    def test_pack(self):
        for wrong in NOTHINGS + ('lamp', 'light', 'box', 0, ()):
            self.refuses('pack', built_ahead, SHOP, wrong, 1)
            self.refuses('pack', holds_behind, SHOP, wrong, 1, ())
            self.refuses('pack', lost_row, SHOP, wrong, 1)
            self.refuses('pack', parted, SHOP, wrong, 0)

    def test_pack_ahead_of_number(self):
        for function in (built_ahead, parted, lost_row):
            self.refuses('pack', function, SHOP, 'box', None)
            self.refuses('pack', function, SHOP, None, -1)
        self.refuses('pack', holds_behind, SHOP, 'box', None, None)

    def test_what_does_not_come_apart(self):
        self.refuses('pack', parted, STIFF, 'pair', 0)
        self.refuses('pack', parted, STIFF, 'pair', True)
        self.refuses('pack', parted, DEEP, 'crate', 1)
        self.refuses('pack', parted, DEEP, 'kit', 9)

    def test_a_choice_further_in(self):
        self.gives(built_ahead(OVER, 'over', 1)[2][1], ('over', 1, False, OVER[2][1][3]))
        self.refuses('pack', parted, OVER, 'over', 0)

    def test_number(self):
        for wrong in WRONG_NUMBERS:
            self.refuses('number', built_ahead, SHOP, 'trio', wrong)
            self.refuses('number', parted, SHOP, 'trio', wrong)
            self.refuses('number', lost_row, SHOP, 'trio', wrong)
            self.refuses('number', lost_row, STIFF, 'pair', wrong)
            self.refuses('number', holds_behind, SHOP, 'trio', wrong, ())
            self.refuses('number', holds_behind, SHOP, 'trio', wrong, None)

    def test_sales(self):
        for wrong in NOTHINGS + ((('light', 1),), (('lamp', 1), ('box', 1))):
            self.refuses('sales', holds_behind, SHOP, 'trio', 1, wrong)

    def test_not_usable_ahead_of_not_possible(self):
        self.refuses('sales', holds_behind, SHOP, 'trio', 9, None)
        self.refuses('sales', holds_behind, STIFF, 'pair', 3, (('box', 1),))
        self.refuses('pack', holds_behind, SHOP, 'lamp', 9, ())
        self.refuses('pack', lost_row, SHOP, 'box', 9)

    def test_not_possible(self):
        for number in (3, 4, 10 ** 59):
            self.raises(NotPossible, {'at': 2}, holds_behind, SHOP, 'trio', number, ())
            self.raises(NotPossible, {'at': 2}, lost_row, SHOP, 'trio', number)
            self.raises(NotPossible, {'at': 2}, lost_row, STIFF, 'pair', number)
            self.raises(NotPossible, {'at': 1}, parted, SHOP, 'trio', number)


class Losing(Case):

    def some_rows(self, shop):
        return list(rows_to(shop, 3))[::7] + list(rows_to(shop, 1))

    def test_holds_behind(self):
        for shop in SHOPS[:40] + [SHOP, STIFF]:
            for name, _, apart, sheet in plain_packs(shop):
                for number in range(min(pieces(shop)[inner] // count for inner, count in sheet) + 1):
                    later = after_many(shop, ('build', name, ((),) * len(sheet)), number)
                    for sales in self.some_rows(shop):
                        result = holds_behind(shop, name, number, sales)
                        self.gives(result, holds(later, sales))
                        self.gives(result, holds(shop, sales, {} if apart else {name: number}))

    def test_by_name(self):
        self.gives(holds_behind(shop=STIFF, pack='pair', number=1, sales=(('lamp', 3),)), False)
        self.gives(lost_row(shop=STIFF, pack='pair', number=0), None)

    def test_choices_behind(self):
        # The lamps that are built in are no options any more.
        shop = ((('lamp', 3), ('torch', 1)), (('light', ('lamp', 'torch')),),
                (('pair', 0, False, (('lamp', 2),)), ('set', 0, False, (('light', 1),))))
        self.gives([holds_behind(shop, 'pair', 1, (('set', number),)) for number in (2, 3)], [True, False])
        self.gives([holds_behind(shop, 'pair', 0, (('set', number),)) for number in (4, 5)], [True, False])

    def test_lost_row(self):
        lost = 0
        for shop in SHOPS + [DEEP, SHOP, STIFF, OVER]:
            for name, _, apart, sheet in plain_packs(shop):
                for number in range(min(pieces(shop)[inner] // count for inner, count in sheet) + 1):
                    sales = lost_row(shop, name, number)
                    if apart or number == 0:
                        self.assertIsNone(sales)
                        continue
                    lost += 1
                    self.assertIs(is_row(shop, sales), True)
                    self.assertTrue(holds(shop, sales))
                    self.assertFalse(holds(built_ahead(shop, name, number), sales))
        self.assertGreater(lost, 20)

    def test_lost_row_of_packs_alone(self):
        # The sheet names no part; of one of the packs pieces are made up, and it is stiff itself.
        shop = ((('bolt', 3), ('nut', 0)), (('fix', ('bolt', 'nut')),),
                (('inner', 2, False, (('fix', 1),)), ('outer', 3, False, (('inner', 1),)),
                 ('soft', 2, True, (('outer', 2),))))
        for number in (1, 2):
            sales = lost_row(shop, 'outer', number)
            self.assertTrue(holds(shop, sales))
            self.assertFalse(holds(built_ahead(shop, 'outer', number), sales))


class Examples(Case):

    def test_of_the_document(self):
        self.gives([built_ahead(SHOP, 'trio', 2)[0][2:], parted(SHOP, 'trio', 1)[0][2:],
                    built_ahead(STIFF, 'pair', 1)[2][0][1]],
                   [(('lamp', 2), ('plug', 1)), (('lamp', 5), ('plug', 7)), 1])
        self.gives([holds_behind(STIFF, 'pair', 1, sales) for sales in ((('lamp', 2), ('pair', 1)), (('lamp', 3),))],
                   [True, False])
        self.gives([lost_row(SHOP, 'trio', 2), lost_row(STIFF, 'pair', 0), lost_row(STIFF, 'pair', 1) is None],
                   [None, None, False])
        self.raises(NotPossible, {'at': 2}, built_ahead, SHOP, 'trio', 3)


if __name__ == '__main__':
    unittest.main()
