"""The checker of shops: [12], with [2], [3] and [10]."""

import unittest

from kitsleft.errors import InvalidPaper
from kitsleft.kinds import is_shop
from kitsleft.shopchecker import lets_shop

from tests.cases import Case
from tests.samples import CHOICES, DEEP, DEEPLY, NOTHINGS, PACKS, PARTS, SHARED, SHOP, STIFF, some_shops

LEFT_OUT = object()
SOME_PARTS = (('pa', 1), ('pb', 0), ('pc', 2))
NO_NAMES = (None, True, 0, '', 'Pa', 'p a', 'pa\n', 'p1', 'overlongs', ('pa',), ['pa'], DEEPLY)
NO_NUMBERS = (None, True, False, -1, '', '1', (1,), [1], DEEPLY)
NO_COUNTS = NO_NUMBERS + (0,)
NO_BOOLS = (None, 0, 1, '', 'yes', (), (True,), [True])
NO_TUPLES = (None, True, 0, 'pa', [], ['pa', 1], [('pa', 1)])


def changed(row, at, worth):
    """The tuple with this instead at the place, or without it."""
    return row[:at] + (() if worth is LEFT_OUT else (worth,)) + row[at + 1:]


def pack_shop(*packs, choices=(('ca', ('pa', 'pb')),), parts=SOME_PARTS):
    return (parts, choices, packs)


class Shape(Case):

    def test_no_triple_of_tuples(self):
        for wrong in NOTHINGS + (0, (), ((), ()), (PARTS, CHOICES), SHOP + ((),), list(SHOP), (SHOP,),
                                 (PARTS, CHOICES, PACKS, PACKS), ('part', 'choice', 'pack')):
            self.raises(InvalidPaper, {'word': 'shape', 'at': -1}, lets_shop, wrong)

    def test_no_tuples_in_it(self):
        for wrong in NO_TUPLES[:-1] + (DEEPLY,):
            for at in range(3):
                self.raises(InvalidPaper, {'word': 'shape', 'at': -1}, lets_shop, changed(SHOP, at, wrong))
        for at in range(3):
            self.raises(InvalidPaper, {'word': 'shape', 'at': -1}, lets_shop, changed(SHOP, at, list(SHOP[at])))

    def test_no_parts(self):
        for choices, packs in (((), ()), (CHOICES, PACKS), ((None,), (1,))):
            self.raises(InvalidPaper, {'word': 'shape', 'at': -1}, lets_shop, ((), choices, packs))


class Elements(Case):

    def bad_element(self, which, word, rows, at, wrong):
        shop = changed((SOME_PARTS, (), ()), which, changed(rows, at, wrong))
        self.raises(InvalidPaper, {'word': word, 'at': at}, lets_shop, shop)

    def bad_elements(self, which, word, rows, worths):
        """Each place of each row with each of its wrong values, and each row whole as no tuple, too long, too short."""
        for at, row in enumerate(rows):
            for place, wrongs in enumerate(worths):
                for wrong in wrongs + (LEFT_OUT,):
                    self.bad_element(which, word, rows, at, changed(row, place, wrong))
            for wrong in NO_TUPLES + ((), row + (1,), list(row), (row,), DEEPLY):
                self.bad_element(which, word, rows, at, wrong)

    def test_parts(self):
        self.bad_elements(0, 'part', SOME_PARTS, (NO_NAMES, NO_NUMBERS))

    def test_choices(self):
        no_options = NO_TUPLES + ((), ('pa',), ('pa', 'pa'), ('pb', 'pa'), ('pa', 'px'), ('pa', 'ca'), ('pa', 1),
                                  ('pa', True), (['pa'], 'pb'), ('pa', 'pb', 'pb'), ['pa', 'pb'], ('pa', 'Pb'))
        rows = (('ca', ('pa', 'pb')), ('cb', ('pa', 'pb', 'pc')))
        self.bad_elements(1, 'choice', rows, (NO_NAMES, no_options))

    def test_packs(self):
        no_sheets = NO_TUPLES + ((),)
        rows = (('ka', 0, True, (('pa', 1),)), ('kb', 2, False, (('pb', 1), ('pc', 3))))
        self.bad_elements(2, 'pack', rows, (NO_NAMES, NO_NUMBERS, NO_BOOLS, no_sheets))

    def test_names_that_do_not_ascend(self):
        rows_of = {0: ('part', lambda name: (name, 1)), 1: ('choice', lambda name: (name, ('pa', 'pb'))),
                   2: ('pack', lambda name: (name, 1, True, (('pa', 1),)))}
        for which, (word, row) in rows_of.items():
            # The one that is not greater is at fault, not the one before it.
            for names, at in ((('qa', 'qa'), 1), (('qb', 'qa'), 1), (('qa', 'qb', 'qb'), 2), (('qa', 'qc', 'qb'), 2),
                              (('q', 'qa', 'q'), 2), (('qc', 'qb', 'qa'), 1)):
                shop = changed((SOME_PARTS, (), ()), which, tuple(row(name) for name in names))
                self.raises(InvalidPaper, {'word': word, 'at': at}, lets_shop, shop)

    def test_whatever_is_in_the_sheet(self):
        # With "pack" the sheet only has to be a nonempty tuple.
        for entry in NO_TUPLES + (DEEPLY, (), 'pa', ('nosuch', 1)):
            self.raises(InvalidPaper, {'word': 'sheet', 'at': (0, 0)}, lets_shop, pack_shop(('ka', 0, True, (entry,))))

    def test_each_element_whole_ahead_of_the_next(self):
        # The second part is wrong in form, the third one in its name: each one comes in its turn.
        parts = (('pa', 1), ('pb', True), ('pa', 1))
        self.raises(InvalidPaper, {'word': 'part', 'at': 1}, lets_shop, (parts, (), ()))
        parts = (('pb', 1), ('pa', 1), ('pc', True))
        self.raises(InvalidPaper, {'word': 'part', 'at': 1}, lets_shop, (parts, (), ()))


class Names(Case):

    def test_a_choice_with_the_name_of_a_part(self):
        choices = (('ca', ('pa', 'pb')), ('pa', ('pa', 'pb')), ('pb', ('pa', 'pb')))
        self.raises(InvalidPaper, {'word': 'name', 'at': (1, 1)}, lets_shop, (SOME_PARTS, choices, ()))
        self.raises(InvalidPaper, {'word': 'name', 'at': (1, 0)}, lets_shop, (SOME_PARTS, choices[2:], ()))

    def test_a_pack_with_the_name_of_a_part_or_a_choice(self):
        fine = ('aa', 0, True, (('pa', 1),))
        for name in ('pa', 'pb', 'pc', 'ca'):
            pack = (name, 0, True, (('pc', 1),))
            self.raises(InvalidPaper, {'word': 'name', 'at': (2, 0)}, lets_shop, pack_shop(pack))
            self.raises(InvalidPaper, {'word': 'name', 'at': (2, 1)}, lets_shop, pack_shop(fine, pack))

    def test_choices_ahead_of_packs(self):
        packs = (('pa', 0, True, (('pb', 1),)),)
        self.raises(InvalidPaper, {'word': 'name', 'at': (1, 0)}, lets_shop,
                    (SOME_PARTS, (('pc', ('pa', 'pb')),), packs))


class Sheets(Case):

    def bad_sheet(self, sheet, at, apart=False):
        packs = (('kb', 0, apart, sheet), ('kc', 0, True, (('pa', 1),)))
        self.raises(InvalidPaper, {'word': 'sheet', 'at': (0, at)}, lets_shop, pack_shop(*packs))
        self.raises(InvalidPaper, {'word': 'sheet', 'at': (1, at)}, lets_shop,
                    pack_shop(('ka', 0, True, (('pa', 1),)), *packs))

    def test_no_pair_of_a_name_and_a_count(self):
        for wrong in NO_TUPLES + ((), ('pa',), ('pa', 1, 1), ['pa', 1], (('pa', 1),)):
            self.bad_sheet((wrong,), 0)
            self.bad_sheet((('pa', 1), wrong), 1)
        for wrong in NO_NAMES + ('px', 'kx', 'yes'):
            self.bad_sheet(((wrong, 1),), 0)
            self.bad_sheet((('pa', 1), (wrong, 1), ('pc', 1)), 1)
        for wrong in NO_COUNTS:
            self.bad_sheet((('pa', wrong),), 0)
            self.bad_sheet((('ca', 1), ('pa', 1), ('pb', wrong)), 2)

    def test_the_pack_itself(self):
        self.bad_sheet((('kb', 1),), 0)
        self.bad_sheet((('ca', 1), ('kb', 1), ('pa', 1)), 1)
        self.bad_sheet((('kb', 1), ('pa', 1)), 0, apart=True)

    def test_names_that_do_not_ascend(self):
        for names, at in ((('pa', 'pa'), 1), (('pb', 'pa'), 1), (('pa', 'pc', 'pb'), 2), (('kc', 'pa', 'ca'), 2)):
            self.bad_sheet(tuple((name, 1) for name in names), at)

    def test_a_choice_in_a_pack_that_can_be_taken_apart(self):
        self.bad_sheet((('ca', 1),), 0, apart=True)
        self.bad_sheet((('ca', 1), ('pa', 1)), 0, apart=True)
        self.bad_sheet((('ca', 1), ('pa', True)), 0, apart=True)
        self.assertIs(lets_shop(pack_shop(('kb', 0, False, (('ca', 1), ('pa', 1))))), True)

    def test_the_first_element_of_the_first_pack(self):
        packs = (('ka', 0, False, (('pa', 1), ('pb', 0), ('pc', 0))), ('kb', 0, True, (('nosuch', 1),)))
        self.raises(InvalidPaper, {'word': 'sheet', 'at': (0, 1)}, lets_shop, pack_shop(*packs))

    def test_a_pack_that_only_comes_later(self):
        packs = (('ka', 0, True, (('kb', 2),)), ('kb', 0, True, (('pa', 1),)))
        self.assertIs(lets_shop(pack_shop(*packs)), True)


class Rings(Case):

    def ring(self, at, **inner):
        packs = tuple((name, 0, True, tuple((other, 1) for other in names)) for name, names in sorted(inner.items()))
        self.raises(InvalidPaper, {'word': 'ring', 'at': at}, lets_shop, pack_shop(*packs))

    def test_rings(self):
        self.ring(0, ka=('kb',), kb=('ka',))
        self.ring(0, ka=('kb', 'pa'), kb=('kc',), kc=('ka', 'pb'))
        self.ring(1, ka=('pa',), kb=('kc',), kc=('kb',))

    def test_the_first_that_contains_itself(self):
        # ka contains a ring, but not itself.
        self.ring(1, ka=('kb',), kb=('kc',), kc=('kb',))
        self.ring(2, ka=('kc',), kb=('ka',), kc=('kd',), kd=('kc',))

    def test_a_pack_twice_is_no_ring(self):
        packs = (('ka', 0, True, (('kb', 1), ('kc', 1))), ('kb', 0, True, (('kc', 1),)), ('kc', 0, True, (('pa', 1),)))
        self.assertIs(lets_shop(pack_shop(*packs)), True)

    def test_forty_packs(self):
        names = [chr(97 + k // 26) + chr(97 + k % 26) for k in range(40)]
        inner = names[1:] + ['zz']
        packs = tuple((name, 0, True, ((other, 2),)) for name, other in zip(names, inner))
        self.assertIs(lets_shop(((('zz', 1),), (), packs)), True)
        ring = packs[:39] + ((names[39], 0, True, ((names[7], 1),)),)
        self.raises(InvalidPaper, {'word': 'ring', 'at': 7}, lets_shop, ((('zz', 1),), (), ring))


class TwoAtOnce(Case):

    # Each of these alone is refused with its word; together the one that comes first here is.
    FAULTS = (
        ('shape', lambda parts, choices, packs: (list(parts), choices, packs)),
        ('part', lambda parts, choices, packs: (parts + (('pd', -1),), choices, packs)),
        ('choice', lambda parts, choices, packs: (parts, (('aa', ('pa',)),) + choices, packs)),
        ('pack', lambda parts, choices, packs: (parts, choices, (('aa', 1, 1, (('pa', 1),)),) + packs)),
        ('name', lambda parts, choices, packs: (parts, choices + (('pb', ('pa', 'pb')),), packs)),
        ('name', lambda parts, choices, packs: (parts, choices, packs + (('pb', 0, True, (('pa', 1),)),))),
        ('sheet', lambda parts, choices, packs: (parts, choices, (('ka', 0, True, (('ca', 1),)),) + packs[1:])),
        ('ring', lambda parts, choices,
         packs: (parts, choices, packs[:1] + (('kb', 0, True, (('kc', 1),)),) + packs[2:])),
    )
    FINE = pack_shop(('ka', 0, True, (('pa', 1),)), ('kb', 1, True, (('pa', 1),)), ('kc', 0, True, (('kb', 1),)))

    def test_the_first_one_is_raised(self):
        self.assertIs(lets_shop(self.FINE), True)
        for early, (word, fault) in enumerate(self.FAULTS):
            with self.assertRaises(InvalidPaper) as alone:
                lets_shop(fault(*self.FINE))
            self.assertEqual(alone.exception.word, word)
            at = alone.exception.at
            for _, later in self.FAULTS[early + 1:]:
                self.raises(InvalidPaper, {'word': word, 'at': at}, lets_shop, fault(*later(*self.FINE)))


class Right(Case):

    def test_shops(self):
        for shop in [SHOP, STIFF, DEEP, SHARED, ((('a', 0),), (), ()), ((('abcdefgh', 10 ** 59),), (), ())]:
            self.assertIs(lets_shop(shop), True)
        for shop in some_shops(200, 61, choices=3, packs=4):
            self.assertIs(lets_shop(shop), True)

    def test_by_name(self):
        self.assertIs(lets_shop(thing=SHOP), True)

    def test_what_is_no_shop_is_refused(self):
        # Shops in which one place has another value: refused exactly if they are none.
        refused = 0
        for seed in range(40):
            shop = some_shops(1, 500 + seed, choices=2, packs=3)[0]
            for changed_shop in spoiled(shop):
                if is_shop(changed_shop):
                    self.assertIs(lets_shop(changed_shop), True)
                else:
                    refused += 1
                    with self.assertRaises(InvalidPaper):
                        lets_shop(changed_shop)
        self.assertGreater(refused, 5000)


def spoiled(thing):
    """The nested tuple with another value at each place in turn, at all depths."""
    for wrong in (None, True, 0, 1, 2, '', 'pa', 'pc', 'ca', 'ka', 'kc', (), [], ('pa', 'pb'), (('pa', 1),)):
        yield wrong
    if isinstance(thing, tuple):
        for at, part in enumerate(thing):
            for other in spoiled(part):
                yield changed(thing, at, other)
            yield changed(thing, at, LEFT_OUT)
            yield thing[:at] + (part,) + thing[at:]


class Examples(Case):

    def test_of_the_document(self):
        self.gives(lets_shop(SHOP), True)
        self.raises(InvalidPaper, {'word': 'sheet', 'at': (0, 1)}, lets_shop, (PARTS, (), PACKS))


if __name__ == '__main__':
    unittest.main()
