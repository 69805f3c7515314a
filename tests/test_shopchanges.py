"""Changes of shops: [13], [16], [17], with the consequences of [19]."""

import random
import unittest
from itertools import permutations

from kitsleft.kinds import is_shop
from kitsleft.shopchanges import (renamed, with_apart, with_choice, with_made, with_options, with_pack, with_part,
                                  with_sheet, with_stock, without)
from kitsleft.shopchecker import lets_shop
from kitsleft.shopparts import inside_of, outer_order

from tests.cases import Case
from tests.samples import CHOICES, DEEP, DEEPLY, NOTHINGS, PACKS, PARTS, SHARED, SHOP, STIFF, some_shops

SHOPS = some_shops(60, 241, choices=3, packs=4) + [SHOP, STIFF, DEEP, SHARED]
BOX, TRIO = PACKS
NO_NUMBERS = (None, True, False, -1, '1', '', (), (1,), [1], DEEPLY)
NO_BOOLS = (None, 0, 1, '', 'yes', (), (True,), [True], DEEPLY)
NO_OPTIONS = (None, True, 0, '', 'bulb', (), ('bulb',), ('candle', 'bulb'), ('bulb', 'bulb'), ('bulb', 'nosuch'),
              ('bulb', 'light'), ('bulb', 'trio'), ['bulb', 'candle'], ('bulb', None), ('bulb', ['candle']),
              (('bulb', 'candle'),), 'bulb,candle', DEEPLY, ('bulb', True), (None,) * 5000)
# No sheets for any pack of the shop, of whichever kind.
NO_SHEETS = (None, True, 0, '', 'lamp', (), [], [('lamp', 1)], ('lamp', 1), (('lamp',),), (('lamp', 1, 1),),
             (['lamp', 1],), (('lamp', 0),), (('lamp', -1),), (('lamp', True),), (('lamp', '1'),), (('lamp', None),),
             (('nosuch', 1),), (('lamp', 1), ('bulb', 1)), (('lamp', 1), ('lamp', 1)), (('lamp', 1), ('lamp', 2)),
             ((None, 1),), ((['lamp'], 1),), (('lamp', 1), None), (None,) * 5000, (DEEPLY,), 'lamp*1')
NOT_FRESH = [wrong for wrong in NOTHINGS if wrong != 'nosuch'] + ['bulb', 'light', 'box', 'lamp', 'trio', 0, 'a b', 'n1',
                                                                 DEEPLY]


def names_of(shop):
    return [row[0] for rows in shop for row in rows]


class Values(Case):

    def test_stock(self):
        self.gives(with_stock(SHOP, 'lamp', 0), ((PARTS[0], PARTS[1], ('lamp', 0), PARTS[3]), CHOICES, PACKS))
        self.gives(with_stock(SHOP, 'bulb', 61)[0][0], ('bulb', 61))
        self.gives(with_stock(shop=SHOP, part='plug', stock=10 ** 60 - 1)[0][3], ('plug', 10 ** 60 - 1))
        self.gives(with_stock(SHOP, 'lamp', 4), SHOP)
        for wrong in NOTHINGS + ('box', 'light', 'trio', 0):
            self.refuses('part', with_stock, SHOP, wrong, 1)
            self.refuses('part', with_stock, SHOP, wrong, None)
        for wrong in NO_NUMBERS:
            self.refuses('stock', with_stock, SHOP, 'lamp', wrong)

    def test_made(self):
        self.gives(with_made(SHOP, 'box', 0), (PARTS, CHOICES, (('box', 0, *BOX[2:]), TRIO)))
        self.gives(with_made(shop=SHOP, pack='trio', made=61), (PARTS, CHOICES, (BOX, ('trio', 61, *TRIO[2:]))))
        for wrong in NOTHINGS + ('lamp', 'light', 0):
            self.refuses('pack', with_made, SHOP, wrong, 1)
            self.refuses('pack', with_made, SHOP, wrong, None)
        for wrong in NO_NUMBERS:
            self.refuses('made', with_made, SHOP, 'box', wrong)

    def test_apart(self):
        self.gives(with_apart(SHOP, 'trio', False), (PARTS, CHOICES, (BOX, ('trio', 1, False, TRIO[3]))))
        self.gives(with_apart(SHOP, 'trio', True), SHOP)
        self.gives(with_apart(shop=SHOP, pack='box', apart=False), SHOP)
        # Its sheet names a choice.
        self.refuses('apart', with_apart, SHOP, 'box', True)
        plain = (PARTS, CHOICES, (('box', 1, False, (('trio', 1),)), TRIO))
        self.gives(with_apart(plain, 'box', True)[2][0], ('box', 1, True, (('trio', 1),)))
        # A choice that is in a pack within it does not matter.
        outer = (PARTS, CHOICES, (BOX, TRIO, ('wrap', 0, False, (('box', 2),))))
        self.gives(with_apart(outer, 'wrap', True)[2][2], ('wrap', 0, True, (('box', 2),)))
        for wrong in NOTHINGS + ('lamp', 'light', 0):
            self.refuses('pack', with_apart, SHOP, wrong, True)
            self.refuses('pack', with_apart, SHOP, wrong, None)
        for wrong in NO_BOOLS:
            self.refuses('apart', with_apart, SHOP, 'trio', wrong)
            self.refuses('apart', with_apart, SHOP, 'box', wrong)

    def test_options(self):
        self.gives(with_options(SHOP, 'light', ('bulb', 'lamp', 'plug')),
                   (PARTS, (('light', ('bulb', 'lamp', 'plug')),), PACKS))
        self.gives(with_options(shop=SHARED, choice='cb', options=('pa', 'pc'))[1],
                   (('ca', ('pa', 'pb')), ('cb', ('pa', 'pc')), ('cc', ('pa', 'pc'))))
        for wrong in NOTHINGS + ('lamp', 'box', 0):
            self.refuses('choice', with_options, SHOP, wrong, ('bulb', 'candle'))
            self.refuses('choice', with_options, SHOP, wrong, None)
        for wrong in NO_OPTIONS:
            self.refuses('options', with_options, SHOP, 'light', wrong)

    def test_sheet(self):
        self.gives(with_sheet(SHOP, 'box', (('lamp', 9),)), (PARTS, CHOICES, (('box', 1, False, (('lamp', 9),)), TRIO)))
        self.gives(with_sheet(SHOP, 'box', (('light', 1), ('trio', 2)))[2][0][3], (('light', 1), ('trio', 2)))
        self.gives(with_sheet(shop=SHOP, pack='trio', sheet=(('bulb', 1),))[2][1], ('trio', 1, True, (('bulb', 1),)))
        for wrong in NOTHINGS + ('lamp', 'light', 0):
            self.refuses('pack', with_sheet, SHOP, wrong, (('lamp', 1),))
            self.refuses('pack', with_sheet, SHOP, wrong, None)
        for pack in ('box', 'trio'):
            for wrong in NO_SHEETS + (((pack, 1),), (('lamp', 1), (pack, 1))):
                self.refuses('sheet', with_sheet, SHOP, pack, wrong)

    def test_a_sheet_with_which_there_is_no_shop(self):
        # A choice in one that can be taken apart; a ring of two, and of three.
        self.refuses('sheet', with_sheet, SHOP, 'trio', (('lamp', 1), ('light', 1)))
        self.refuses('sheet', with_sheet, SHOP, 'trio', (('box', 1),))
        chain = (PARTS, (), (('ka', 0, True, (('kb', 1),)), ('kb', 0, True, (('kc', 1),)), ('kc', 0, True, (('lamp', 1),))))
        for inner in ('ka', 'kb'):
            self.refuses('sheet', with_sheet, chain, 'kc', (('bulb', 1), (inner, 1)))
        self.gives(with_sheet(chain, 'kb', (('bulb', 1),))[2][1], ('kb', 0, True, (('bulb', 1),)))


class More(Case):

    def test_part(self):
        for name, at in (('a', 0), ('box', None), ('bulb', None), ('cable', 1), ('lamps', 3), ('zzzzzzzz', 4)):
            if at is None:
                self.refuses('part', with_part, SHOP, name, 3)
            else:
                self.gives(with_part(SHOP, name, 3), (PARTS[:at] + ((name, 3),) + PARTS[at:], CHOICES, PACKS))
        self.gives(with_part(shop=STIFF, part='box', stock=0)[0][0], ('box', 0))
        for wrong in NOT_FRESH:
            self.refuses('part', with_part, SHOP, wrong, 1)
            self.refuses('part', with_part, SHOP, wrong, None)
        for wrong in NO_NUMBERS:
            self.refuses('stock', with_part, SHOP, 'cable', wrong)

    def test_choice(self):
        for name, at in (('a', 0), ('ca', None), ('caa', 1), ('cbb', 2), ('z', 3)):
            if at is None:
                self.refuses('choice', with_choice, SHARED, name, ('pa', 'pb'))
            else:
                self.gives(with_choice(SHARED, name, ('pa', 'pb', 'pc'))[1],
                           SHARED[1][:at] + ((name, ('pa', 'pb', 'pc')),) + SHARED[1][at:])
        self.gives(with_choice(shop=STIFF, choice='any', options=('bulb', 'lamp')),
                   (PARTS, (('any', ('bulb', 'lamp')),), STIFF[2]))
        for wrong in NOT_FRESH:
            self.refuses('choice', with_choice, SHOP, wrong, ('bulb', 'candle'))
            self.refuses('choice', with_choice, SHOP, wrong, None)
        for wrong in NO_OPTIONS + (('bulb', 'fresh'), ('fresh', 'lamp')):
            self.refuses('options', with_choice, SHOP, 'fresh', wrong)

    def test_pack(self):
        sheet = (('lamp', 1), ('trio', 2))
        for name, at in (('a', 0), ('crate', 1), ('zz', 2)):
            for made, apart in ((0, True), (61, False)):
                self.gives(with_pack(SHOP, name, made, apart, sheet),
                           (PARTS, CHOICES, PACKS[:at] + ((name, made, apart, sheet),) + PACKS[at:]))
        self.gives(with_pack(shop=STIFF, pack='box', made=1, apart=False, sheet=(('pair', 1),))[2][0],
                   ('box', 1, False, (('pair', 1),)))
        self.gives(with_pack(SHOP, 'crate', 0, False, (('light', 2),))[2][1], ('crate', 0, False, (('light', 2),)))
        for wrong in NOT_FRESH:
            self.refuses('pack', with_pack, SHOP, wrong, 1, True, (('lamp', 1),))
        for wrong in NO_NUMBERS:
            self.refuses('made', with_pack, SHOP, 'crate', wrong, True, (('lamp', 1),))
        for wrong in NO_BOOLS:
            self.refuses('apart', with_pack, SHOP, 'crate', 1, wrong, (('lamp', 1),))
        for wrong in NO_SHEETS + ((('crate', 1),), (('crate', 1), ('lamp', 1))):
            for apart in (True, False):
                self.refuses('sheet', with_pack, SHOP, 'crate', 1, apart, wrong)
        # A choice in one that can be taken apart.
        self.refuses('sheet', with_pack, SHOP, 'crate', 1, True, (('light', 2),))

    def test_two_at_once(self):
        self.refuses('pack', with_pack, SHOP, 'lamp', None, None, None)
        self.refuses('made', with_pack, SHOP, 'crate', -1, 1, ())
        self.refuses('made', with_pack, SHOP, 'crate', True, True, (('light', 2),))
        self.refuses('apart', with_pack, SHOP, 'crate', 0, 0, ())
        self.refuses('part', with_part, SHOP, 'light', True)
        self.refuses('choice', with_choice, SHOP, 'trio', ())
        self.refuses('choice', with_options, SHOP, 'box', ())
        self.refuses('pack', with_sheet, SHOP, 'light', ())

    def test_forty_packs(self):
        names = [a + b for a in 'abcdefg' for b in 'abcdef'][:39]
        shop = ((('part', 1),), (), tuple((name, 1, True, ((inner, 1),)) for name, inner in zip(names, names[1:] + ['part'])))
        self.assertTrue(is_shop(shop))
        more = with_pack(shop, 'zz', 1, True, tuple((name, 2) for name in names))
        self.gives([len(more[2]), without(more, 'zz')], [40, shop])
        self.refuses('sheet', with_sheet, more, names[-1], (('zz', 1),))


class Without(Case):

    def test_without(self):
        self.gives(without(SHOP, 'box'), (PARTS, CHOICES, (TRIO,)))
        bare = without(shop=(PARTS, CHOICES, ()), name='lamp')
        self.gives(bare, ((PARTS[0], PARTS[1], PARTS[3]), CHOICES, ()))
        self.gives(without((PARTS, CHOICES, (TRIO,)), 'light'), (PARTS, (), (TRIO,)))
        self.gives(without(without((PARTS, CHOICES, ()), 'light'), 'bulb'), (PARTS[1:], (), ()))

    def test_what_is_named(self):
        # By options; by a sheet: a part, a choice, a pack.
        for name in ('bulb', 'candle', 'lamp', 'plug', 'light', 'trio'):
            self.refuses('name', without, SHOP, name)
        self.refuses('name', without, (PARTS, CHOICES, ()), 'candle')
        self.refuses('name', without, STIFF, 'lamp')
        self.gives(without(STIFF, 'plug')[0], PARTS[:3])

    def test_the_only_part(self):
        self.refuses('name', without, ((('lamp', 1),), (), ()), 'lamp')
        self.gives(without(((('lamp', 1), ('plug', 2)), (), ()), 'lamp'), ((('plug', 2),), (), ()))

    def test_no_names(self):
        for wrong in NOTHINGS + (0, 'pair', ('plug', 5)):
            self.refuses('name', without, SHOP, wrong)

    def test_all_names(self):
        for shop in SHOPS:
            for name in names_of(shop):
                inner = [other for _, options in shop[1] for other in options]
                inner += [other for pack in shop[2] for other, _ in pack[3]]
                if name in inner or [name] == [part for part, _ in shop[0]]:
                    self.refuses('name', without, shop, name)
                else:
                    less = without(shop, name)
                    self.gives(less, tuple(tuple(row for row in rows if row[0] != name) for rows in shop))
                    self.gives(lets_shop(less), True)


def plainly_renamed(shop, table):
    """The shop with other names, by exchanging them one by one."""
    def new(name):
        return dict(table).get(name, name)
    parts, choices, packs = shop
    return (tuple(sorted((new(part), stock) for part, stock in parts)),
            tuple(sorted((new(choice), tuple(sorted(map(new, options)))) for choice, options in choices)),
            tuple(sorted((new(pack), made, apart, tuple(sorted((new(name), count) for name, count in sheet)))
                         for pack, made, apart, sheet in packs)))


class Renamed(Case):

    def test_of_each_kind(self):
        self.gives(renamed(SHOP, (('lamp', 'zlamp'),)),
                   ((PARTS[0], PARTS[1], ('plug', 5), ('zlamp', 4)), CHOICES,
                    (('box', 1, False, (('light', 1), ('trio', 1), ('zlamp', 1))),
                     ('trio', 1, True, (('plug', 2), ('zlamp', 1))))))
        self.gives(renamed(SHOP, (('bulb', 'dim'),)),
                   ((('candle', 1), ('dim', 2), PARTS[2], PARTS[3]), (('light', ('candle', 'dim')),), PACKS))
        self.gives(renamed(SHOP, (('light', 'any'),))[1:],
                   ((('any', ('bulb', 'candle')),), (('box', 1, False, (('any', 1), ('lamp', 1), ('trio', 1))), TRIO)))
        self.gives(renamed(shop=SHOP, table=(('trio', 'ae'),))[2],
                   (('ae', 1, True, TRIO[3]), ('box', 1, False, (('ae', 1), ('lamp', 1), ('light', 1)))))

    def test_names_exchanged(self):
        self.gives(renamed(SHOP, (('bulb', 'candle'), ('candle', 'bulb')))[0][:2], (('bulb', 1), ('candle', 2)))
        # A part and a pack.
        self.gives(renamed(SHOP, (('box', 'lamp'), ('lamp', 'box'))),
                   ((('box', 4), *PARTS[:2], PARTS[3]), CHOICES,
                    (('lamp', 1, False, (('box', 1), ('light', 1), ('trio', 1))),
                     ('trio', 1, True, (('box', 1), ('plug', 2))))))
        # Three in a ring, and a new name that was an old one.
        self.gives(renamed(SHOP, (('bulb', 'candle'), ('candle', 'lamp'), ('lamp', 'bulb')))[0],
                   (('bulb', 4), ('candle', 2), ('lamp', 1), ('plug', 5)))
        self.gives(renamed(SHOP, (('bulb', 'candle'), ('candle', 'wax')))[0],
                   (('candle', 2), ('lamp', 4), ('plug', 5), ('wax', 1)))

    def test_nothing_changes(self):
        for table in ((), (('lamp', 'lamp'),), tuple((name, name) for name in sorted(names_of(SHOP)))):
            self.gives(renamed(SHOP, table), SHOP)

    def test_no_tables(self):
        for wrong in NOTHINGS + (0, 'lamp', ('lamp', 'amp'), [('lamp', 'amp')], {'lamp': 'amp'}, (['lamp', 'amp'],),
                                 (('lamp',),), (('lamp', 'amp', 'amp'),), ('lamp',), (('nosuch', 'amp'),),
                                 (('lamp', 'Amp'),), (('lamp', ''),), (('lamp', 'overlongs'),), (('lamp', None),),
                                 (('lamp', ['amp']),), (('lamp', 1),), ((None, 'amp'),), ((['lamp'], 'amp'),),
                                 (('amp', 'lamp'),), (('Lamp', 'amp'),), (('lamp', 'amp'), None)):
            if wrong != ():
                self.refuses('table', renamed, SHOP, wrong)

    def test_no_set(self):
        # It does not ascend; an old name twice, also with one new name.
        self.refuses('table', renamed, SHOP, (('plug', 'cord'), ('lamp', 'amp')))
        self.refuses('table', renamed, SHOP, (('lamp', 'amp'), ('lamp', 'bmp')))
        self.refuses('table', renamed, SHOP, (('lamp', 'amp'), ('lamp', 'amp')))
        self.refuses('table', renamed, SHOP, (('lamp', 'lamp'), ('lamp', 'amp')))

    def test_two_with_one_name(self):
        self.refuses('table', renamed, SHOP, (('lamp', 'amp'), ('plug', 'amp')))
        for new in ('bulb', 'light', 'box', 'trio', 'plug'):
            self.refuses('table', renamed, SHOP, (('lamp', new),))
        for old in ('bulb', 'light', 'box', 'trio', 'plug'):
            self.refuses('table', renamed, SHOP, ((old, 'lamp'),))
        self.refuses('table', renamed, SHOP, (('bulb', 'candle'), ('candle', 'lamp')))
        self.refuses('table', renamed, SHOP, (('lamp', 'plug'), ('plug', 'plug')))

    def test_all_names(self):
        for at, shop in enumerate(SHOPS):
            rng, names = random.Random(at), sorted(names_of(shop))
            fresh = sorted({*names, 'a', 'k', 'ka', 'kaa', 'pz', 'zz', 'overlong', 'm'})
            for _ in range(8):
                some = sorted(rng.sample(names, rng.randint(1, len(names))))
                kept = [name for name in names if name not in some]
                table = tuple(zip(some, rng.sample([name for name in fresh if name not in kept], len(some))))
                result = renamed(shop, table)
                self.gives(result, plainly_renamed(shop, table))
                self.gives(lets_shop(result), True)

    def test_each_exchange_of_three(self):
        for shop in (STIFF, SHARED):
            names = sorted(names_of(shop))[:3]
            for others in permutations(names):
                self.gives(renamed(shop, tuple(zip(names, others))), plainly_renamed(shop, tuple(zip(names, others))))


class Consequences(Case):

    def test_without_takes_back(self):
        for shop in SHOPS:
            first = shop[0][0][0]
            self.gives(without(with_part(shop, 'mm', 2), 'mm'), shop)
            self.gives(without(with_pack(shop, 'mm', 2, True, ((first, 1),)), 'mm'), shop)
            if len(shop[0]) > 1:
                self.gives(without(with_choice(shop, 'mm', tuple(name for name, _ in shop[0])), 'mm'), shop)

    def test_renamed_takes_back(self):
        for at, shop in enumerate(SHOPS):
            rng, names = random.Random(at), sorted(names_of(shop))
            others = rng.sample(names + ['a', 'zz'], len(names))
            if set(others) == set(names):
                others[0] = 'a'
            table = tuple(zip(names, others))
            back = tuple(sorted((new, old) for old, new in table))
            self.gives(renamed(renamed(shop, table), back), shop)

    def test_orders_do_not_go_by_numbers(self):
        for shop in SHOPS:
            for pack, made, apart, sheet in shop[2]:
                others = [with_made(shop, pack, made + 3)]
                if not any(name in dict(shop[1]) for name, _ in sheet):
                    others.append(with_apart(shop, pack, not apart))
                others.append(with_stock(shop, shop[0][0][0], 9))
                for other in others:
                    self.gives(outer_order(other), outer_order(shop))
                    self.gives([inside_of(other, name[0]) for name in shop[2]],
                               [inside_of(shop, name[0]) for name in shop[2]])
                for inner in inside_of(shop, pack):
                    if inner in outer_order(shop):
                        self.assertLess(outer_order(shop).index(pack), outer_order(shop).index(inner))

    def test_each_value_is_put_where_it_belongs(self):
        for shop in SHOPS:
            for at, (part, stock) in enumerate(shop[0]):
                other = with_stock(shop, part, stock + 7)
                self.gives(other, (shop[0][:at] + ((part, stock + 7),) + shop[0][at + 1:], shop[1], shop[2]))
                self.gives(with_stock(other, part, stock), shop)
            for at, (pack, made, apart, sheet) in enumerate(shop[2]):
                other = with_made(shop, pack, made + 7)
                self.gives(other[2], shop[2][:at] + ((pack, made + 7, apart, sheet),) + shop[2][at + 1:])
                other = with_sheet(shop, pack, ((shop[0][0][0], 5),))
                self.gives(other[2], shop[2][:at] + ((pack, made, apart, ((shop[0][0][0], 5),)),) + shop[2][at + 1:])
                self.gives(with_sheet(other, pack, sheet), shop)


class Examples(Case):

    def test_of_the_document(self):
        self.gives([with_made(SHOP, 'trio', 7)[2][1], renamed(SHOP, (('light', 'amp'), ('trio', 'duo')))[2][0][3]],
                   [('trio', 7, True, (('lamp', 1), ('plug', 2))), (('amp', 1), ('duo', 1), ('lamp', 1))])
        self.refuses('apart', with_apart, SHOP, 'box', True)
        self.refuses('name', without, SHOP, 'bulb')


if __name__ == '__main__':
    unittest.main()
