"""Parts of shops: [13] to [15], and the two last sentences of [19]."""

import unittest

from kitsleft import shopparts
from kitsleft.shopparts import (articles_of, can_part, choices_of, inside_of, made_of, namers_of, options_of,
                                outer_order,
                                packs_of, parts_of, sheet_of, stock_of, there_of)

from tests.cases import Case
from tests.samples import CHOICES, DEEP, NOTHINGS, PACKS, PARTS, SHARED, SHOP, STIFF, some_shops

SHOPS = [SHOP, STIFF, DEEP, SHARED] + some_shops(150, 2, packs=4, choices=3)


class Parts(Case):

    def test_names(self):
        self.gives([parts_of(SHOP), choices_of(SHOP), packs_of(SHOP), articles_of(SHOP)],
                   [('bulb', 'candle', 'lamp', 'plug'), ('light',), ('box', 'trio'),
                    ('box', 'bulb', 'candle', 'lamp', 'plug', 'trio')])
        self.gives([choices_of(STIFF), packs_of((PARTS, (), ())), articles_of(((('a', 1),), (), ()))], [(), (), ('a',)])
        self.gives(articles_of(DEEP), ('bolt', 'case', 'crate', 'kit', 'nut', 'wire', 'wrap'))

    def test_values(self):
        self.gives([stock_of(SHOP, part) for part in parts_of(SHOP)], [2, 1, 4, 5])
        self.gives(options_of(SHOP, 'light'), ('bulb', 'candle'))
        self.gives([made_of(DEEP, pack) for pack in packs_of(DEEP)], [2, 1, 1, 2])
        self.gives([can_part(SHOP, 'box'), can_part(SHOP, 'trio')], [False, True])
        self.gives([sheet_of(SHOP, 'box'), sheet_of(SHOP, 'trio')], [PACKS[0][3], PACKS[1][3]])

    def test_all_values(self):
        for shop in SHOPS:
            for name, stock in shop[0]:
                self.gives([stock_of(shop, name), there_of(shop, name)], [stock, stock])
            for name, options in shop[1]:
                self.gives(options_of(shop, name), options)
            for name, made, apart, sheet in shop[2]:
                self.gives([made_of(shop, name), there_of(shop, name)], [made, made])
                self.gives([can_part(shop, name), sheet_of(shop, name)], [apart, sheet])

    def test_by_name(self):
        self.gives([parts_of(shop=STIFF), stock_of(shop=SHOP, part='lamp'), options_of(shop=SHOP, choice='light')],
                   [('bulb', 'candle', 'lamp', 'plug'), 4, ('bulb', 'candle')])
        self.gives([made_of(shop=SHOP, pack='box'), can_part(shop=SHOP, pack='box'), sheet_of(shop=STIFF, pack='pair')],
                   [1, False, (('lamp', 2),)])
        self.gives([there_of(shop=SHOP, article='box'), namers_of(shop=SHOP, name='box'),
                    inside_of(shop=STIFF, pack='pair')],
                   [1, (), ('lamp',)])
        self.gives([choices_of(shop=STIFF), packs_of(shop=STIFF), articles_of(shop=((('a', 1),), (), ())),
                    outer_order(shop=STIFF)],
                   [(), ('pair',), ('a',), ('pair',)])


class Refusals(Case):

    def test_all_parameters(self):
        names = {'parts': parts_of(SHOP), 'choices': choices_of(SHOP), 'packs': packs_of(SHOP)}
        for function, word, kinds in (('stock_of', 'part', ('parts',)), ('options_of', 'choice', ('choices',)),
                                      ('made_of', 'pack', ('packs',)), ('can_part', 'pack', ('packs',)),
                                      ('sheet_of', 'pack', ('packs',)), ('there_of', 'article', ('parts', 'packs')),
                                      ('namers_of', 'name', ('parts', 'choices', 'packs')),
                                      ('inside_of', 'pack', ('packs',))):
            good = [name for kind in kinds for name in names[kind]]
            for name in good:
                getattr(shopparts, function)(SHOP, name)
            others = [name for kind in names for name in names[kind] if name not in good]
            for wrong in NOTHINGS + (0, 1, (), ('light',), ['trio'], ('lamp', 'plug')) + tuple(others):
                self.refuses(word, getattr(shopparts, function), SHOP, wrong)


class Lying(Case):

    def test_namers(self):
        self.gives([namers_of(DEEP, name) for name in ('bolt', 'case', 'crate', 'kit', 'nut', 'wire', 'wrap')],
                   [('case', 'kit'), ('crate', 'wrap'), (), ('case', 'crate'), ('kit',), ('crate', 'wrap'), ()])
        self.gives([namers_of(SHOP, 'light'), namers_of(SHOP, 'bulb'), namers_of(SHOP, 'trio')],
                   [('box',), (), ('box',)])
        for shop in SHOPS:
            for name in parts_of(shop) + choices_of(shop) + packs_of(shop):
                self.gives(namers_of(shop, name), tuple(pack[0] for pack in shop[2] if name in dict(pack[3])))

    def test_inside(self):
        self.gives([inside_of(DEEP, pack) for pack in packs_of(DEEP)],
                   [('bolt', 'kit', 'nut'), ('bolt', 'case', 'kit', 'nut', 'wire'), ('bolt', 'nut'),
                    ('bolt', 'case', 'kit', 'nut', 'wire')])
        self.gives(inside_of(SHARED, 'ka'), ('ca',))

    def test_inside_by_its_definition(self):
        for shop in SHOPS:
            sheets = {pack[0]: pack[3] for pack in shop[2]}

            def inside(pack):
                return {name for name, _ in sheets[pack]}.union(*[inside(name) for name,
                                                                  _ in sheets[pack] if name in sheets])
            for pack in sheets:
                self.gives(inside_of(shop, pack), tuple(sorted(inside(pack))))

    def test_outer_order(self):
        self.gives([outer_order(DEEP), outer_order(SHARED), outer_order((PARTS, CHOICES, ()))],
                   [('crate', 'wrap', 'case', 'kit'), ('ka', 'kb', 'kc'), ()])

    def test_first_by_name_at_each_place(self):
        # b stands in z: it comes behind z at once, ahead of what comes later by name.
        packs = (('a', 0, True, (('lamp', 1),)), ('b', 0, True, (('lamp', 1),)), ('y', 0, True, (('a', 1),)),
                 ('z', 0, True, (('b', 1),)))
        self.gives(outer_order((PARTS, (), packs)), ('y', 'a', 'z', 'b'))
        packs = (('a', 0, True, (('lamp', 1),)), ('b', 0, True, (('lamp', 1),)), ('y', 0, True, (('b', 1),)),
                 ('z', 0, True, (('a', 1),)))
        self.gives(outer_order((PARTS, (), packs)), ('y', 'b', 'z', 'a'))

    def test_outer_order_by_its_definition(self):
        for shop in SHOPS:
            namers = {pack: set(namers_of(shop, pack)) for pack in packs_of(shop)}
            wanted = []
            while len(wanted) < len(namers):
                wanted.append(min(pack for pack in namers if pack not in wanted and namers[pack] <= set(wanted)))
            self.gives(outer_order(shop), tuple(wanted))

    def test_consequences(self):
        for shop in SHOPS:
            order = outer_order(shop)
            turned = tuple((name, made + 3, not apart and not any(inner in dict(shop[1]) for inner, _ in sheet), sheet)
                           for name, made, apart, sheet in shop[2])
            other = (tuple((name, stock + 5) for name, stock in shop[0]), shop[1], turned)
            self.gives(outer_order(other), order)
            for at, pack in enumerate(order):
                self.gives(inside_of(other, pack), inside_of(shop, pack))
                self.assertFalse(set(order[:at]) & set(inside_of(shop, pack)))

    def test_a_chain_of_forty_packs(self):
        names = ['p' + chr(97 + at // 26) + chr(97 + at % 26) for at in range(40)]
        chain = tuple(sorted((name, 0, True, ((inner, 1),)) for name,
                             inner in zip(names[::-1], names[-2::-1] + ['lamp'])))
        self.gives(outer_order((PARTS, (), chain)), tuple(names[::-1]))
        self.gives(inside_of((PARTS, (), chain), names[-1]), tuple(['lamp'] + names[:-1]))


class Examples(Case):

    def test_of_the_document(self):
        self.gives([there_of(SHOP, 'lamp'), there_of(SHOP, 'box'), namers_of(SHOP, 'lamp'), inside_of(SHOP, 'box'),
                    outer_order(SHOP)],
                   [4, 1, ('box', 'trio'), ('lamp', 'light', 'plug', 'trio'), ('box', 'trio')])


if __name__ == '__main__':
    unittest.main()
