"""Texts written: what [20] says of shop_text and row_text."""

import unittest

from kitsleft.shoptexts import row_text, shop_text

from tests.cases import Case
from tests.samples import DEEP, DEEPLY, SHARED, SHOP, STIFF, some_shops


class ShopText(Case):

    def test_the_shop_of_the_document(self):
        self.gives(shop_text(SHOP), '\n'.join([
            'part bulb 2', 'part candle 1', 'part lamp 4', 'part plug 5', 'choice light bulb,candle',
            'pack box 1 no lamp*1,light*1,trio*1', 'pack trio 1 yes lamp*1,plug*2']))

    def test_other_shops(self):
        self.gives(shop_text(((('a', 0),), (), ())), 'part a 0')
        self.gives(shop_text(STIFF)[-19:], 'pack pair 0 no lamp*2'[-19:])
        self.gives(shop_text(SHARED).split('\n')[3:], ['choice ca pa,pb', 'choice cb pb,pc', 'choice cc pa,pc',
                                                       'pack ka 0 no ca*1', 'pack kb 0 no cb*1', 'pack kc 0 no cc*1'])
        self.gives(shop_text(DEEP).split('\n')[3], 'pack case 2 yes bolt*1,kit*2')
        self.gives(shop_text(shop=((('a', 10 ** 59),), (), (('b', 10 ** 59, True, (('a', 10 ** 59),)),))),
                   f'part a {10 ** 59}\npack b {10 ** 59} yes a*{10 ** 59}')

    def test_what_shop_read_returns(self):
        # Perhaps no shop: names in any order, twice, of nothing, and packs in rings.
        self.gives(shop_text(((('b', 1), ('a', 0), ('b', 2)), (('x', ('q',)), ('x', ('b', 'a', 'a'))),
                              (('p', 0, True, (('p', 1), ('x', 3), ('p', 2))), ('a', 7, False, (('z', 1),))))),
                   'part b 1\npart a 0\npart b 2\nchoice x q\nchoice x b,a,a\n'
                   'pack p 0 yes p*1,x*3,p*2\npack a 7 no z*1')

    def test_each_shop_has_its_own(self):
        shops = some_shops(100, 33, choices=3, packs=4)
        texts = {}
        for shop in shops:
            texts.setdefault(shop_text(shop), []).append(shop)
        for same in texts.values():
            self.assertEqual(len(set(same)), 1)
        self.assertGreater(len(texts), 90)


class RowText(Case):

    def test_rows(self):
        self.gives([row_text(()), row_text((('box', 2),)), row_text((('box', 2), ('trio', 1)))],
                   ['-', 'box*2', 'box*2,trio*1'])
        self.gives(row_text(sales=(('a', 10 ** 59),)), f'a*{10 ** 59}')

    def test_any_tuple_of_pairs(self):
        self.gives(row_text((('trio', 1), ('box', 60), ('trio', 2), ('nosuch', 61), ('abcdefgh', 7))),
                   'trio*1,box*60,trio*2,nosuch*61,abcdefgh*7')

    def test_refusals(self):
        for wrong in (None, True, 0, '', '-', 'box*2', [], [('box', 2)], (('box', 0),), (('box', -1),),
                      (('box', True),),
                      (('box', None),), (('box', '2'),), (('box', [2]),), (('Box', 2),), (('', 2),),
                      (('overlongname', 2),), ((None, 2),),
                      ((['box'], 2),), ((2, 'box'),), (('box',),), (('box', 2, 2),), (['box', 2],), ('box', 2),
                      (('box', 2), None),
                      (('box', 2), ('trio', 0)), ((('box', 2),),), (None,), ('-',), ((),), DEEPLY, (DEEPLY,),
                      (('a b', 1),)):
            self.refuses('sales', row_text, wrong)


class Examples(Case):

    def test_of_the_document(self):
        self.gives([shop_text(SHOP).split('\n')[4:6], row_text((('box', 2), ('trio', 1)))],
                   [['choice light bulb,candle', 'pack box 1 no lamp*1,light*1,trio*1'], 'box*2,trio*1'])
        self.gives(row_text(()), '-')


if __name__ == '__main__':
    unittest.main()
