"""The kinds of values: [2] to [5], [11]."""

import copy
import unittest

from kitsleft.kinds import is_deed, is_integer, is_name, is_names, is_number, is_row, is_shop

from tests.cases import Case
from tests.oracle import deeds_of
from tests.samples import CHOICES, DEEP, DEEPLY, NOTHINGS, PACKS, PARTS, SHARED, SHOP, STIFF, some_shops

LONG = 10 ** 59


class Plain(Case):

    def test_integers(self):
        for thing in (0, 1, -1, 7, LONG, -LONG):
            self.assertIs(is_integer(thing), True)
        for thing in (True, False, None, '', '1', (), (1,), [1], DEEPLY):
            self.assertIs(is_integer(thing), False)

    def test_numbers(self):
        for thing in (0, 1, 60, LONG):
            self.assertIs(is_number(thing), True)
        for thing in (-1, -LONG, True, False, None, '', '1', (), (1,), [1], DEEPLY):
            self.assertIs(is_number(thing), False)

    def test_names(self):
        for thing in ('a', 'z', 'lamp', 'abcdefgh', 'yz', 'aa'):
            self.assertIs(is_name(thing), True)
        for thing in ('', 'abcdefghi', 'Lamp', 'lamP', 'la mp', ' a', 'a ', 'a1', '1', 'a_b', 'a-b', 'a\n', '\n', '`',
                      '{',
                      'a*1', 'Z', 'A', True, False, None, 0, ('a',), ['a'], (), [], DEEPLY):
            self.assertIs(is_name(thing), False, repr(thing))

    def test_sets_of_names(self):
        for thing in ((), ('a',), ('a', 'b'), ('a', 'aa', 'b'), ('abcdefgh', 'b')):
            self.assertIs(is_names(thing), True)
        for thing in ([], ['a'], 'a', '', None, True, 0, ('b', 'a'), ('a', 'a'), ('a', 'c', 'b'), ('a', 1), (1,),
                      (True,),
                      (None,), ('a', 'B'), ('A',), ('',), (('a',),), (['a'], 'b'), ('a', ['b']), ('abcdefghi',),
                      DEEPLY):
            self.assertIs(is_names(thing), False, repr(thing))

    def test_by_name(self):
        self.assertIs(is_integer(thing=3), True)
        self.assertIs(is_number(thing=3), True)
        self.assertIs(is_name(thing='a'), True)
        self.assertIs(is_names(thing=('a',)), True)
        self.assertIs(is_shop(thing=SHOP), True)
        self.assertIs(is_row(shop=SHOP, thing=()), True)
        self.assertIs(is_deed(shop=SHOP, thing=('sell', 'lamp')), True)


def with_parts(*parts):
    return (parts, (), ())


def with_choices(*choices):
    return (PARTS, choices, ())


def with_packs(*packs):
    return (PARTS, CHOICES, packs)


def with_sheet(*sheet):
    return with_packs(('box', 1, False, sheet), PACKS[1])


class Shops(Case):

    def accepts(self, *things):
        for thing in things:
            self.assertIs(is_shop(thing), True, repr(thing))

    def rejects(self, *things):
        for thing in things:
            before = copy.deepcopy(thing)
            self.assertIs(is_shop(thing), False, repr(thing))
            self.assertEqual(thing, before)

    def test_shops(self):
        self.accepts(SHOP, STIFF, DEEP, SHARED, (PARTS, (), ()), (PARTS, CHOICES, ()))
        self.accepts(*some_shops(200, 1, packs=4, choices=3))

    def test_shape(self):
        self.rejects(*NOTHINGS)
        self.rejects((), (PARTS,), (PARTS, CHOICES), SHOP + ((),), list(SHOP), ((), (), ()), ((), CHOICES, PACKS))
        self.rejects((list(PARTS), CHOICES, PACKS), (PARTS, list(CHOICES), PACKS), (PARTS, CHOICES, list(PACKS)))
        self.rejects((PARTS, None, PACKS), (PARTS, CHOICES, None), (None, CHOICES, PACKS), (PARTS, '', ()),
                     ('a', (), ()))

    def test_parts(self):
        self.accepts(with_parts(('a', 0)), with_parts(('a', LONG)), with_parts(('a', 1), ('b', 0)))
        self.rejects(with_parts(('a', True)), with_parts(('a', False)), with_parts(('a', -1)), with_parts(('a', None)))
        self.rejects(with_parts(('a', '1')), with_parts(('A', 1)), with_parts(('', 1)), with_parts(('abcdefghi', 1)))
        self.rejects(with_parts(('a',)), with_parts(('a', 1, 1)), with_parts(['a', 1]), with_parts('a'), with_parts(()))
        self.rejects(with_parts((['a'], 1)), with_parts((None, 1)), with_parts((1, 1)), with_parts(('a', [1])))
        self.rejects(with_parts(('b', 1), ('a', 1)), with_parts(('a', 1), ('a', 1)), with_parts(('a', 1), ('a', 2)))
        self.rejects(with_parts(('a', 1), ('c', 1), ('b', 1)), with_parts(('a', 1), None),
                     with_parts(('a', 1), ('b', -1)))

    def test_choices(self):
        two = ('bulb', 'lamp')
        self.accepts(with_choices(('x', two)), with_choices(('x', two), ('y', two)),
                     with_choices(('x', two + ('plug',))))
        self.rejects(with_choices(('x', ())), with_choices(('x', ('bulb',))), with_choices(('x', ('lamp', 'bulb'))))
        self.rejects(with_choices(('x', ('bulb', 'bulb'))), with_choices(('x', list(two))), with_choices(('x', 'bulb')))
        self.rejects(with_choices(('x', ('bulb', 'nosuch'))), with_choices(('x', ('bulb', 'x'))))
        self.rejects(with_choices(('x', ('bulb', None))), with_choices(('x', (['bulb'], ['lamp']))))
        self.rejects(with_choices(('X', two)), with_choices((None, two)), with_choices((['x'], two)))
        self.rejects(with_choices(('x',)), with_choices(('x', two, 1)), with_choices(['x', two]), with_choices(None))
        self.rejects(with_choices(('y', two), ('x', two)), with_choices(('x', two), ('x', two)))
        self.rejects(with_choices(('lamp', two)), with_choices(('plug', two)))

    def test_options_are_parts_alone(self):
        self.rejects((PARTS, (('x', ('bulb', 'trio')),), PACKS[1:]), (PARTS, CHOICES + (('x', ('bulb', 'light')),), ()))

    def test_packs(self):
        sheet = (('lamp', 1),)
        self.accepts(with_packs(('a', 0, False, sheet)), with_packs(('a', LONG, True, (('lamp', LONG),))))
        self.rejects(with_packs(('a', True, False, sheet)), with_packs(('a', -1, False, sheet)),
                     with_packs(('a', None, True, sheet)))
        self.rejects(with_packs(('a', 0, 0, sheet)), with_packs(('a', 0, 1, sheet)), with_packs(('a', 0, None, sheet)))
        self.rejects(with_packs(('a', 0, 'no', sheet)), with_packs(('a', 0, [], sheet)))
        self.rejects(with_packs(('a', 0, False, ())), with_packs(('a', 0, False, list(sheet))),
                     with_packs(('a', 0, False, 'lamp')))
        self.rejects(with_packs(('a', 0, False)), with_packs(('a', 0, False, sheet, 1)),
                     with_packs(['a', 0, False, sheet]))
        self.rejects(with_packs(('A', 0, False, sheet)), with_packs((['a'], 0, False, sheet)),
                     with_packs((None, 0, False, sheet)))
        self.rejects(with_packs(PACKS[1], PACKS[0]), with_packs(PACKS[1], PACKS[1]), with_packs(None),
                     with_packs('trio'))

    def test_names_apart(self):
        sheet = (('lamp', 1),)
        self.accepts(with_packs(('bulbs', 0, False, sheet)))
        self.rejects(with_packs(('bulb', 0, False, sheet)), with_packs(('light', 0, False, sheet)))
        self.rejects((PARTS, (('bulb', ('candle', 'lamp')),), ()))

    def test_sheets(self):
        self.accepts(with_sheet(('lamp', 1)), with_sheet(('light', 2)), with_sheet(('trio', 3)),
                     with_sheet(('bulb', 4), ('lamp', 1)))
        self.rejects(with_sheet(('box', 1)), with_sheet(('nosuch', 1)), with_sheet(('lamp', 0)),
                     with_sheet(('lamp', -1)))
        self.rejects(with_sheet(('lamp', True)), with_sheet(('lamp', None)), with_sheet(('lamp', '1')),
                     with_sheet(('lamp', [1])))
        self.rejects(with_sheet(('lamp',)), with_sheet(('lamp', 1, 1)), with_sheet(['lamp', 1]), with_sheet('lamp'),
                     with_sheet(None))
        self.rejects(with_sheet((['lamp'], 1)), with_sheet((None, 1)), with_sheet((1, 1)))
        self.rejects(with_sheet(('lamp', 1), ('bulb', 1)), with_sheet(('lamp', 1), ('lamp', 1)),
                     with_sheet(('lamp', 1), ('lamp', 2)))
        self.rejects(with_sheet(('lamp', 1), ('plug', 0)), with_sheet(('lamp', 1), ('nosuch', 1)))

    def test_no_choice_in_what_comes_apart(self):
        stiff, soft = ('box', 0, False, (('light', 1),)), ('box', 0, True, (('light', 1),))
        self.accepts(with_packs(stiff))
        self.rejects(with_packs(soft), with_packs(('box', 0, True, (('lamp', 1), ('light', 1)))))
        self.accepts(with_packs(stiff, ('crate', 0, True, (('box', 1),))))

    def test_rings(self):
        def ring(*names):
            sheets = {name: ((names[(at + 1) % len(names)], 1),) for at, name in enumerate(names)}
            return tuple((name, 0, False, sheets[name]) for name in sorted(names))
        self.rejects(with_packs(*ring('a', 'b')), with_packs(*ring('b', 'a', 'c')),
                     with_packs(*ring('d', 'a', 'c', 'b')))
        self.rejects(with_packs(*ring('b', 'c'), ('d', 0, False, (('lamp', 1),))))
        self.rejects(with_packs(('a', 0, False, (('b', 1),)), *ring('b', 'c')))
        self.rejects(with_packs(('a', 0, True, (('b', 1), ('lamp', 1))), ('b', 0, True, (('a', 1), ('lamp', 1)))))
        # Two ways to the same pack are no ring.
        self.accepts(with_packs(('a', 0, True, (('b', 1), ('c', 1))), ('b', 0, True, (('c', 1),)),
                                ('c', 0, True, (('lamp', 1),))))

    def test_a_chain_of_forty_packs(self):
        names = ['p' + chr(97 + at // 26) + chr(97 + at % 26) for at in range(40)]
        chain = tuple((name, 0, True, ((inner, 1),)) for name, inner in zip(names, names[1:] + ['lamp']))
        self.accepts((PARTS, (), chain))
        self.rejects((PARTS, (), chain[:-1] + ((names[-1], 0, True, ((names[0], 1),)),)))


class Rows(Case):

    def test_rows(self):
        for thing in ((), (('box', 3),), (('box', 1), ('bulb', LONG), ('trio', 61)), (('candle', 1), ('lamp', 2))):
            self.assertIs(is_row(SHOP, thing), True, repr(thing))

    def test_no_rows(self):
        for thing in NOTHINGS + ((('light', 1),), (('lamp', 1), ('box', 1)), (('box', 1), ('box', 1)),
                                 (('box', 1), ('box', 2)),
                                 (('box', 1), ('lamp', 0)), (('box', 1), ('nosuch', 1)), (('box', False),),
                                 (('box', '1'),),
                                 (('box', None),), (('box', -1),), (('box', 1), None), (('box', 1), 'lamp'),
                                 (('box',),)):
            before = copy.deepcopy(thing)
            self.assertIs(is_row(SHOP, thing), False, repr(thing))
            self.assertEqual(thing, before)

    def test_of_this_shop(self):
        self.assertIs(is_row(STIFF, (('pair', 1),)), True)
        self.assertIs(is_row(SHOP, (('pair', 1),)), False)
        self.assertIs(is_row(STIFF, (('box', 1),)), False)


class Deeds(Case):
    """MIXED has a pack with a part and two choices, of which one wants two."""

    MIXED = (PARTS, (('glow', ('candle', 'plug')), ('light', ('bulb', 'candle'))),
             (('mix', 0, False, (('bulb', 1), ('glow', 2), ('light', 1), ('trio', 1))),
              ('trio', 1, True, (('lamp', 1), ('plug', 2)))))

    def accepts(self, shop, *things):
        for thing in things:
            self.assertIs(is_deed(shop, thing), True, repr(thing))

    def rejects(self, shop, *things):
        for thing in things:
            before = copy.deepcopy(thing)
            self.assertIs(is_deed(shop, thing), False, repr(thing))
            self.assertEqual(thing, before)

    def test_all_deeds(self):
        for shop in (SHOP, STIFF, DEEP, SHARED, self.MIXED):
            self.accepts(shop, *deeds_of(shop))

    def test_nothings(self):
        self.rejects(SHOP, *NOTHINGS)
        self.rejects(SHOP, (), ('sell',), ('apart',), ('build',), ('build', 'trio'), 'sell', ('sell', 'lamp', 'lamp'),
                     ['sell', 'lamp'])
        self.rejects(SHOP, ('buy', 'lamp'), ('', 'lamp'), (None, 'lamp'), (['sell'], 'lamp'), (True, 'lamp'),
                     ('Sell', 'lamp'))

    def test_sell(self):
        self.accepts(SHOP, ('sell', 'lamp'), ('sell', 'box'), ('sell', 'trio'))
        self.accepts(((('a', 0),), (), ()), ('sell', 'a'))
        self.rejects(SHOP, ('sell', 'light'), ('sell', 'nosuch'), ('sell', None), ('sell', ['lamp']), ('sell', ()),
                     ('sell', True))

    def test_apart(self):
        self.accepts(SHOP, ('apart', 'trio'))
        self.accepts((PARTS, (), (('trio', 0, True, (('lamp', 1),)),)), ('apart', 'trio'))
        self.rejects(SHOP, ('apart', 'box'), ('apart', 'lamp'), ('apart', 'light'), ('apart', 'nosuch'),
                     ('apart', ['trio']))
        self.rejects(SHOP, ('apart', None), ('apart', 'trio', ()), ('apart', 'trio', ((), ())), ['apart', 'trio'])

    def test_build(self):
        self.accepts(SHOP, ('build', 'box', ((), ('bulb',), ())), ('build', 'box', ((), ('candle',), ())),
                     ('build', 'trio', ((), ())))
        for takes in ((), ((), ()), ((), (), ()), ((), ('bulb',), (), ()), ((), ('bulb', 'bulb'), ()),
                      ((), ('lamp',), ()),
                      (('lamp',), ('bulb',), ()), ((), ('bulb',), ('trio',)), [(), ('bulb',), ()], ((), ['bulb'], ()),
                      ([], ('bulb',), ()), ((), ('bulb',), None), ((), 'bulb', ()), ((), ('nosuch',), ()),
                      ((), (None,), ()),
                      ((), (['bulb'],), ()), ((), (True,), ()), ((), ('light',), ()), (('bulb',), (), ()), None,
                      'bulb', 3):
            self.rejects(SHOP, ('build', 'box', takes))
        self.rejects(SHOP, ('build', 'trio', ()), ('build', 'trio', ((),)), ('build', 'trio', ((), (), ())),
                     ('build', 'trio', ((), ('lamp',))))
        self.rejects(SHOP, ('build', 'lamp', ((), ())), ('build', 'light', ((), ())), ('build', 'nosuch', ((), ())),
                     ('build', None, ((), ())))
        self.rejects(SHOP, ('build', ['trio'], ((), ())), ['build', 'trio', ((), ())], ('build', 'trio', ((), ()), ()))

    def test_takes_in_any_order(self):
        for take in (('candle', 'plug'), ('plug', 'candle'), ('plug', 'plug'), ('candle', 'candle')):
            self.accepts(self.MIXED, ('build', 'mix', ((), take, ('bulb',), ())))
        for take in ((), ('candle',), ('candle', 'plug', 'plug'), ('bulb', 'candle'), ('candle', 'bulb'),
                     ('candle', None)):
            self.rejects(self.MIXED, ('build', 'mix', ((), take, ('bulb',), ())))
        self.rejects(self.MIXED, ('build', 'mix', ((), ('plug', 'plug'), ('plug',), ())))
        self.rejects(self.MIXED, ('build', 'mix', ((), ('bulb',), ('plug', 'plug'), ())))

    def test_possible_or_not(self):
        empty = ((('bulb', 0), ('candle', 0), ('lamp', 0), ('plug', 0)), CHOICES,
                 (PACKS[0][:1] + (0,) + PACKS[0][2:], PACKS[1][:1] + (0,) + PACKS[1][2:]))
        self.accepts(empty, *deeds_of(empty))


class Examples(Case):

    def test_of_the_document(self):
        self.gives([is_shop(SHOP), is_row(SHOP, (('box', 3),)), is_row(SHOP, (('light', 1),)),
                    is_deed(SHOP, ('build', 'box', ((), ('bulb',), ())))], [True, True, False, True])
        self.assertIs(is_shop((PARTS, (), PACKS)), False)


if __name__ == '__main__':
    unittest.main()
