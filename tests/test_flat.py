"""Flat shops: [51], [52], [53], with [6], [7] and the refusals of [13]."""

import unittest

from kitsleft.flat import flat_row, flattened, is_flat, is_soft, same_flat
from kitsleft.holds import is_held
from kitsleft.kinds import is_row, is_shop
from kitsleft.shopparts import packs_of

from tests.cases import Case
from tests.oracle import holds, rows_to
from tests.samples import CHOICES, DEEP, NOTHINGS, PACKS, PARTS, SHARED, SHOP, STIFF, some_shops

GLUED = (PARTS, CHOICES, (PACKS[0], ('trio', 1, False, PACKS[1][3])))
SHOPS = some_shops(250, 111, parts=2, choices=1, packs=3, stock=4, made=2, count=2)


def spread(shop, pack):
    """All parts and choices of one piece of the pack, piece by piece."""
    sheets = {row[0]: row[3] for row in shop[2]}
    if pack not in sheets:
        return [pack]
    return [inner for name, count in sheets[pack] for _ in range(count) for inner in spread(shop, name)]


def all_soft(shop, pack):
    packs = {row[0]: row for row in shop[2]}
    return packs[pack][2] and all(all_soft(shop, name) for name, _ in packs[pack][3] if name in packs)


def flat_of(shop):
    """The flat shop, by counting pieces."""
    packs = []
    for name, made, _, _ in shop[2]:
        inner = spread(shop, name)
        packs.append((name, made, all_soft(shop, name), tuple((one, inner.count(one)) for one in sorted(set(inner)))))
    return (shop[0], shop[1], tuple(packs))


def is_same(shop):
    """What [53] says of same_flat."""
    for name, made, apart, _ in shop[2]:
        if made > 0 and apart and not all_soft(shop, name):
            return False
        if made > 0 and not apart:
            for naming, own, _, sheet in shop[2]:
                if name in dict(sheet) and holds(shop, ((naming, own + 1),)):
                    return False
    return True


class Flattened(Case):

    def test_against_counted_pieces(self):
        for shop in SHOPS + some_shops(100, 112, choices=3, packs=4) + [SHOP, STIFF, DEEP, SHARED, GLUED]:
            flat = flattened(shop)
            self.gives(flat, flat_of(shop))
            self.assertTrue(is_shop(flat))
            self.gives([flattened(flat), is_flat(flat)], [flat, True])
            self.gives([is_soft(shop, pack) for pack in packs_of(shop)],
                       [all_soft(shop, pack) for pack in packs_of(shop)])
            # The flat sheets of a flat shop are its own; but packs within packs may have been taken apart.
            self.gives(is_flat(shop), [row[3] for row in shop[2]] == [row[3] for row in flat[2]])

    def test_counts_along_all_ways(self):
        packs = (('ka', 3, True, (('kb', 2), ('kc', 3), ('pa', 4))), ('kb', 0, True, (('kc', 4), ('pb', 1))),
                 ('kc', 1, True, (('pa', 2), ('pb', 3))))
        parts = (('pa', 1), ('pb', 2))
        self.gives(flattened((parts, (), packs)), (parts, (), (
            ('ka', 3, True, (('pa', 26), ('pb', 35))), ('kb', 0, True, (('pa', 8), ('pb', 13))),
            ('kc', 1, True, (('pa', 2), ('pb', 3))))))

    def test_soft_and_stiff(self):
        for apart in (True, False):
            packs = (('ka', 0, True, (('kb', 1),)), ('kb', 0, True, (('kc', 1), ('pa', 1))),
                     ('kc', 0, apart, (('pa', 1),)),
                     ('kd', 0, False, (('pa', 1),)), ('ke', 0, True, (('kd', 1), ('pa', 1))))
            shop = ((('pa', 1),), (), packs)
            self.gives([is_soft(shop, pack) for pack in packs_of(shop)], [apart, apart, apart, False, False])
            self.gives([pack[2] for pack in flattened(shop)[2]], [apart, apart, apart, False, False])

    def test_a_stiff_pack_around_soft_ones(self):
        shop = ((('pa', 1),), (), (('ka', 1, False, (('kb', 2),)), ('kb', 1, True, (('pa', 2),))))
        self.gives([is_soft(shop, 'ka'), is_soft(shop, 'kb'), flattened(shop)[2]],
                   [False, True, (('ka', 1, False, (('pa', 4),)), ('kb', 1, True, (('pa', 2),)))])

    def test_choices_stay(self):
        shop = (PARTS, CHOICES,
                (('box', 0, False, (('light', 2), ('pair', 2))), ('pair', 0, False, (('lamp', 1), ('light', 1)))))
        self.gives(flattened(shop), (PARTS, CHOICES, (('box', 0, False, (('lamp', 2), ('light', 4))),
                                                      ('pair', 0, False, (('lamp', 1), ('light', 1))))))

    def test_flat(self):
        self.gives([is_flat(shop) for shop in (SHOP, STIFF, DEEP, SHARED, (PARTS, (), ()), (PARTS, (), (PACKS[1],)))],
                   [False, True, False, True, True, True])
        self.gives([is_flat(shop=STIFF), is_soft(shop=SHOP, pack='trio'), flattened(shop=STIFF), same_flat(shop=STIFF),
                    flat_row(shop=STIFF)], [True, True, STIFF, True, None])

    def test_refusals(self):
        for wrong in NOTHINGS + ('lamp', 'light', 0, ('trio',), ['trio']):
            self.refuses('pack', is_soft, SHOP, wrong)


class Same(Case):

    def test_against_all_rows(self):
        same = 0
        for shop in SHOPS:
            flat = flat_of(shop)
            result = same_flat(shop)
            same += result
            self.gives(result, is_same(shop))
            if result:
                self.gives(flat_row(shop), None)
                for sales in list(rows_to(shop, 3))[::5]:
                    self.assertEqual(holds(shop, sales), holds(flat, sales))
            else:
                self.check_lost(shop, flat_row(shop))
        self.assertGreater(min(same, len(SHOPS) - same), 30)

    def check_lost(self, shop, sales):
        self.assertTrue(is_row(shop, sales))
        self.assertTrue(holds(shop, sales))
        self.assertFalse(holds(flat_of(shop), sales))

    def test_larger_shops(self):
        kinds = {True: 0, False: 0}
        for shop in some_shops(300, 113, choices=3, packs=4, stock=4) + [SHOP, STIFF, DEEP, SHARED, GLUED]:
            result = same_flat(shop)
            kinds[result] += 1
            self.gives(result, is_same(shop))
            if result:
                self.gives(flat_row(shop), None)
            else:
                self.check_lost(shop, flat_row(shop))
        self.assertGreater(min(kinds.values()), 50)

    def test_what_holds_flat_holds(self):
        for shop in SHOPS[:60]:
            flat = flattened(shop)
            for sales in list(rows_to(shop, 2))[::4]:
                if is_held(flat, sales):
                    self.assertTrue(is_held(shop, sales))

    def differs(self, shop, *rows):
        """Each of these rows holds in the shop, but not in the flat one."""
        self.gives(same_flat(shop), False)
        self.check_lost(shop, flat_row(shop))
        for sales in rows:
            self.check_lost(shop, sales)

    def stays(self, shop):
        self.gives([same_flat(shop), flat_row(shop)], [True, None])

    def test_soft_in_stiff(self):
        # The pack within comes apart in both.
        for outer, inner in ((0, 0), (0, 3), (3, 0), (3, 3)):
            self.stays(((('pa', 5),), (),
                        (('ka', outer, False, (('kb', 2), ('pa', 1))), ('kb', inner, True, (('pa', 2),)))))

    def test_stiff_in_soft(self):
        for outer, inner in ((0, 0), (0, 3), (3, 0), (3, 3)):
            shop = ((('pa', 5),), (), (('ka', outer, True, (('kb', 2), ('pa', 1))), ('kb', inner, False, (('pa', 2),))))
            if outer:
                self.differs(shop, (('kb', inner + 6 + 4),), (('pa', 8),))
            elif inner:
                self.differs(shop, (('ka', 2),))
            else:
                self.stays(shop)

    def test_only_stiff_ones_within_what_comes_apart(self):
        # Nothing loose comes out: only the pack within, which is then not built.
        shop = ((('pa', 2),), (), (('ka', 1, True, (('kb', 1),)), ('kb', 0, False, (('pa', 1),))))
        self.differs(shop, (('kb', 3),), (('kb', 1), ('pa', 2)))

    def test_made_pieces_that_nothing_can_be_built_around(self):
        # Of the outer one another part is always missing.
        packs = (('ka', 2, False, (('kb', 1), ('pb', 1))), ('kb', 2, False, (('pa', 1),)))
        self.stays(((('pa', 5), ('pb', 0)), (), packs))
        self.differs(((('pa', 5), ('pb', 1)), (), packs), (('ka', 3), ('pa', 5)))

    def test_made_pieces_in_packs_that_come_apart_in_vain(self):
        # A soft pack with a stiff one, no made pieces of either: the same; of the soft one: not.
        packs = [('ka', made, True, (('kb', 1), ('pb', 1))) for made in (0, 1)]
        inner = ('kb', 0, False, (('pa', 1),))
        self.stays(((('pa', 1), ('pb', 1)), (), (packs[0], inner)))
        self.differs(((('pa', 1), ('pb', 1)), (), (packs[1], inner)), (('pb', 2),))

    def test_only_choices_within(self):
        # What is saved shows only once all options of the choice are asked.
        packs = (('ka', 0, False, (('kb', 1),)), ('kb', 1, False, (('ca', 1),)))
        shop = ((('pa', 2), ('pb', 3), ('pc', 1)), (('ca', ('pa', 'pb')),), packs)
        self.differs(shop, (('ka', 1), ('pa', 2), ('pb', 3)))
        shop = ((('pa', 2), ('pb', 3), ('pc', 1)), (('ca', ('pa', 'pb')), ('cb', ('pb', 'pc'))), packs)
        self.differs(shop, (('ka', 1), ('pa', 2), ('pb', 3)))

    def test_no_parts_at_all(self):
        self.stays(((('pa', 0),), (), (('ka', 0, True, (('kb', 1),)), ('kb', 0, False, (('pa', 1),)))))
        self.differs(((('pa', 0),), (), (('ka', 0, False, (('kb', 1),)), ('kb', 1, False, (('pa', 1),)))), (('ka', 1),))

    def test_flat_shops(self):
        for shop in (STIFF, SHARED, (PARTS, (), ())):
            self.stays(shop)


class Examples(Case):

    def test_of_the_document(self):
        self.gives([is_flat(SHOP), is_soft(SHOP, 'trio'), flattened(SHOP)[2][0], same_flat(SHOP), flat_row(SHOP)],
                   [False, True, ('box', 1, False, (('lamp', 2), ('light', 1), ('plug', 2))), True, None])
        self.gives([same_flat(GLUED), is_held(GLUED, flat_row(GLUED)), is_held(flattened(GLUED), flat_row(GLUED))],
                   [False, True, False])


if __name__ == '__main__':
    unittest.main()
