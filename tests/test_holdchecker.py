"""The checker of papers that a row holds, or not: [28] to [30], with [10]."""

import random
import unittest
from itertools import product

from kitsleft.errors import InvalidPaper
from kitsleft.holdchecker import lets_hold
from kitsleft.holds import givings
from kitsleft.netting import netted

from tests.cases import Case
from tests.oracle import articles, holds, netting, pieces, plus, row
from tests.samples import CHOICES, DEEP, NOTHINGS, PACKS, PARTS, SHARED, SHOP, STIFF, some_rows, some_shops

THREE, FOUR = (('box', 3),), (('box', 4),)
BUILDS, GIVEN = (('box', 2), ('trio', 2)), (('light', 'bulb', 2),)
HELD = ('held', BUILDS, GIVEN)
PRICES = (('box', 2), ('bulb', 0), ('candle', 0), ('lamp', 1), ('light', 0), ('plug', 0), ('trio', 1))
SHORT = ('short', PRICES)
ALL = (('ka', 1), ('kb', 1), ('kc', 1))
ALL_HELD = ('held', ALL, (('ca', 'pa', 1), ('cb', 'pb', 1), ('cc', 'pc', 1)))
SHOPS = some_shops(60, 211, choices=3, packs=3, stock=3, made=1) + [SHOP, STIFF, DEEP, SHARED]
CHOOSING = [shop for shop in some_shops(150, 212, choices=3, packs=3, stock=5, made=1) if shop[1] and shop[2]]
PLAIN = [shop for shop in some_shops(60, 213, choices=0, packs=2, stock=4) if shop[2]]
NO_INTEGERS = (None, True, False, '2', '', (2,), [2], ('2',))


def changed(rows, at, *other):
    """The tuple with others at this place instead."""
    return rows[:at] + other + rows[at + 1:]


def priced(**numbers):
    """The prices of the document with these instead."""
    return ('short', tuple((name, numbers.get(name, price)) for name, price in PRICES))


def holding_builds(shop, sales):
    """The turns as builds, and more than these, with the same builds of packs that contain others."""
    turns = netting(shop, sales)[0]
    yield turns
    for name in turns:
        yield netting(shop, sales, floors={name: turns[name] + 1})[0]


def all_givings(shop, needed):
    """All ways to give the choices what they need, as far as each part goes by itself: any numbers."""
    slots = [(choice, part) for choice, options in shop[1] for part in options]
    for numbers in product(*[range(needed[choice] + 1) for choice, _ in slots]):
        yield tuple((*slot, number) for slot, number in zip(slots, numbers) if number)


class Accepted(Case):

    def test_held(self):
        self.gives(lets_hold(SHOP, THREE, HELD), True)
        self.gives(lets_hold(SHOP, THREE, ('held', BUILDS, (('light', 'bulb', 1), ('light', 'candle', 1)))), True)
        self.gives(lets_hold(SHARED, ALL, ALL_HELD), True)
        self.gives(lets_hold(SHARED, ALL, ('held', ALL, (('ca', 'pb', 1), ('cb', 'pc', 1), ('cc', 'pa', 1)))), True)
        self.gives(lets_hold((PARTS, (), ()), (('lamp', 4),), ('held', (), ())), True)
        self.gives(lets_hold((PARTS, CHOICES, ()), (), ('held', (), ())), True)

    def test_short(self):
        self.gives(lets_hold(SHOP, FOUR, SHORT), False)
        self.gives(lets_hold((PARTS, (), ()), (('lamp', 5),),
                             ('short', (('bulb', 0), ('candle', 0), ('lamp', 1), ('plug', 0)))), False)

    def test_more_built_than_the_netting_tells(self):
        self.gives(lets_hold(SHOP, (('box', 2),), ('held', (('box', 1), ('trio', 0)), (('light', 'bulb', 1),))), True)
        self.gives(lets_hold(SHOP, (('box', 2),), ('held', (('box', 2), ('trio', 1)), GIVEN)), True)
        self.gives(lets_hold(SHOP, (('box', 2),), ('held', (('box', 1), ('trio', 2)), (('light', 'bulb', 1),))), True)
        self.gives(lets_hold(SHOP, (), ('held', (('box', 0), ('trio', 2)), ())), True)
        # So many more that too few parts are left.
        self.raises(InvalidPaper, {'word': 'part', 'at': 3}, lets_hold, SHOP, (),
                    ('held', (('box', 0), ('trio', 3)), ()))

    def test_builds_below_nought(self):
        self.gives(lets_hold(SHOP, (('lamp', 5),), ('held', (('box', 0), ('trio', -1)), ())), True)
        self.gives(lets_hold(SHOP, (('lamp', 4),), ('held', (('box', 0), ('trio', -1)), ())), True)
        self.gives(lets_hold(SHOP, (('lamp', 4),), ('held', (('box', 0), ('trio', 0)), ())), True)
        inner = ((('pa', 0),), (), (('ka', 0, True, (('pa', 2),)), ('kb', 1, True, (('ka', 2),))))
        self.gives(lets_hold(inner, (('pa', 4),), ('held', (('ka', -2), ('kb', -1)), ())), True)
        self.gives(lets_hold(inner, (('ka', 2),), ('held', (('ka', 0), ('kb', -1)), ())), True)
        self.raises(InvalidPaper, {'word': 'balance', 'at': 0}, lets_hold, inner, (('pa', 4),),
                    ('held', (('ka', -3), ('kb', -1)), ()))
        self.raises(InvalidPaper, {'word': 'part', 'at': 0}, lets_hold, inner, (('pa', 4),),
                    ('held', (('ka', -1), ('kb', -1)), ()))

    def test_prices_doubled_and_more_sales(self):
        for times in (2, 3, 10 ** 9):
            self.gives(lets_hold(SHOP, FOUR, ('short', tuple((name, price * times) for name, price in PRICES))), False)
        for article in articles(SHOP):
            self.gives(lets_hold(SHOP, plus(FOUR, article, 1), SHORT), False)

    def test_dearest_and_cheapest(self):
        # A rigid pack, and a choice, may be worth less than what is in them.
        shop = ((('pa', 1), ('pb', 1)), (('ca', ('pa', 'pb')),), (('ka', 5, False, (('ca', 2), ('pa', 1))),))
        for choice in (0, 1, 2):
            for pack in range(0, 3 + 2 * choice):
                prices = ('short', (('ca', choice), ('ka', pack), ('pa', 2), ('pb', 3)))
                wanted = 5 * pack + 5 < 7 * pack + 2
                if wanted:
                    self.gives(lets_hold(shop, (('ka', 7), ('pa', 1)), prices), False)
                else:
                    self.raises(InvalidPaper, {'word': 'worth', 'at': -1}, lets_hold, shop, (('ka', 7), ('pa', 1)),
                                prices)

    def test_by_name(self):
        self.gives([lets_hold(shop=SHOP, sales=THREE, thing=HELD), lets_hold(shop=SHOP, sales=FOUR, thing=SHORT)],
                   [True, False])

    def test_the_thing_stays(self):
        wrong = ['held', [list(build) for build in BUILDS], [list(gift) for gift in GIVEN]]
        with self.assertRaises(InvalidPaper):
            lets_hold(SHOP, THREE, wrong)
        self.gives(wrong, ['held', [['box', 2], ['trio', 2]], [['light', 'bulb', 2]]])


class Refused(Case):

    def no(self, word, at, shop, sales, *thing):
        """This one is refused so."""
        self.raises(InvalidPaper, {'word': word, 'at': at}, lets_hold, shop, sales, *thing)

    def test_no_rows(self):
        for wrong in NOTHINGS + ((('light', 1),), (('trio', 1), ('box', 1)), 0):
            self.refuses('sales', lets_hold, SHOP, wrong, HELD)
            self.refuses('sales', lets_hold, SHOP, wrong, None)

    def test_shape(self):
        for wrong in NOTHINGS + ((), ('held',), ('short',), ('held', BUILDS), ('held', PRICES), ('held', BUILDS, GIVEN, ()),
                                 ('short', PRICES, ()), ('short', BUILDS, GIVEN), list(HELD), list(SHORT),
                                 ('held', list(BUILDS), GIVEN), ('held', BUILDS, list(GIVEN)), ('short', list(PRICES)),
                                 ('Held', BUILDS, GIVEN), ('', BUILDS, GIVEN), (True, BUILDS, GIVEN),
                                 (None, PRICES), (['short'], PRICES), (('held',), BUILDS, GIVEN),
                                 ('held', None, GIVEN), ('held', BUILDS, None), ('held', BUILDS, 'x'),
                                 ('short', None), ('short', 'lamp'), ('short', 0), (BUILDS, GIVEN), (HELD,), 'held'):
            self.no('shape', -1, SHOP, THREE, wrong)

    def test_builds(self):
        for builds in ((), BUILDS[:1], BUILDS[1:], BUILDS + BUILDS[1:], (None,), (None,) * 3, BUILDS + (('zz', 0),)):
            self.no('builds', -1, SHOP, THREE, ('held', builds, GIVEN))
        self.no('builds', -1, (PARTS, (), ()), (), ('held', (('box', 0),), ()))

    def test_build(self):
        for at in (0, 1):
            name, number = BUILDS[at]
            wrong = [None, True, 2, '', name, (), (name,), (name, number, 0), [name, number], (number, name),
                     (name, name), (None, number), ([name], number), ('light', number), ('lamp', number),
                     BUILDS[1 - at]]
            for other in wrong + [(name, number) for number in NO_INTEGERS]:
                self.no('build', at, SHOP, THREE, ('held', changed(BUILDS, at, other), GIVEN))
        self.no('build', 0, SHOP, THREE, ('held', BUILDS[::-1], GIVEN))
        self.no('build', 0, SHOP, THREE, ('held', (None, None), GIVEN))

    def test_balance_below_nought(self):
        glued = (PARTS, CHOICES, (PACKS[0], ('trio', 1, False, PACKS[1][3])))
        self.no('balance', 1, glued, (), ('held', (('box', 0), ('trio', -1)), ()))
        self.gives(lets_hold(SHOP, (), ('held', (('box', 0), ('trio', -1)), ())), True)
        self.no('balance', 0, SHOP, (), ('held', (('box', -1), ('trio', -1)), ()))

    def test_balance(self):
        self.no('balance', 0, SHOP, THREE, ('held', (('box', 1), ('trio', 2)), GIVEN))
        self.no('balance', 1, SHOP, THREE, ('held', (('box', 2), ('trio', 0)), GIVEN))
        self.no('balance', 1, SHOP, (('trio', 2),), ('held', (('box', 0), ('trio', 0)), ()))
        self.no('balance', 1, SHOP, (), ('held', (('box', 0), ('trio', -2)), ()))
        # The count in the sheet, and what is asked of the pack itself, both.
        two = ((('pa', 9),), (), (('ka', 1, False, (('pa', 1),)), ('kb', 0, False, (('ka', 2),))))
        for number in range(6):
            paper = ('held', (('ka', number), ('kb', 2)), ())
            if number < 4:
                self.no('balance', 0, two, (('ka', 1), ('kb', 2)), paper)
            else:
                self.gives(lets_hold(two, (('ka', 1), ('kb', 2)), paper), True)

    def test_giving(self):
        for wrong in NOTHINGS + ((), ('light', 'bulb'), ('light', 'bulb', 2, 0), ['light', 'bulb', 2],
                                 ('bulb', 'light', 2), ('light', 'lamp', 2), ('light', 'light', 2), ('box', 'bulb', 2),
                                 ('light', None, 2), (None, 'bulb', 2), (['light'], 'bulb', 2), ('light', ['bulb'], 2),
                                 ('light', 'bulb', 0), ('light', 'bulb', -1), (('light', 'bulb'), 2)):
            self.no('giving', 0, SHOP, THREE, ('held', BUILDS, (wrong,)))
            self.no('giving', 1, SHOP, THREE, ('held', BUILDS, (('light', 'bulb', 1), wrong)))
        for wrong in NO_INTEGERS:
            self.no('giving', 0, SHOP, THREE, ('held', BUILDS, (('light', 'bulb', wrong),)))
        # One that is right, but is an option of another choice alone.
        self.no('giving', 0, SHARED, (('ka', 1),), ('held', (('ka', 1), ('kb', 0), ('kc', 0)), (('ca', 'pc', 1),)))

    def test_giving_in_order(self):
        one, other = ('light', 'bulb', 1), ('light', 'candle', 1)
        self.gives(lets_hold(SHOP, THREE, ('held', BUILDS, (one, other))), True)
        self.no('giving', 1, SHOP, THREE, ('held', BUILDS, (other, one)))
        self.no('giving', 1, SHOP, THREE, ('held', BUILDS, (one, one)))
        self.no('giving', 1, SHOP, THREE, ('held', BUILDS, (one, ('light', 'bulb', 2))))
        first, second, third = ALL_HELD[2]
        self.no('giving', 1, SHARED, ALL, ('held', ALL, (second, first, third)))
        self.no('giving', 2, SHARED, ALL, ('held', ALL, (first, third, second)))
        # Ascending by choice and part together: parts alone need not ascend.
        self.gives(lets_hold(SHARED, ALL, ('held', ALL, (('ca', 'pb', 1), ('cb', 'pc', 1), ('cc', 'pa', 1)))), True)

    def test_choice(self):
        for given in ((), (('light', 'bulb', 1),), (('light', 'bulb', 3),), (('light', 'bulb', 2), ('light', 'candle', 1))):
            self.no('choice', 0, SHOP, THREE, ('held', BUILDS, given))
        for at, gift in enumerate(ALL_HELD[2]):
            self.no('choice', at, SHARED, ALL, ('held', ALL, changed(ALL_HELD[2], at)))
            self.no('choice', at, SHARED, ALL, ('held', ALL, changed(ALL_HELD[2], at, gift[:2] + (2,))))
        # What is given for it goes by what is built, not by what is asked.
        self.no('choice', 0, SHOP, (('box', 2),), ('held', (('box', 2), ('trio', 1)), (('light', 'bulb', 1),)))

    def test_part(self):
        # Of candles there is one.
        self.no('part', 1, SHOP, THREE, ('held', BUILDS, (('light', 'candle', 2),)))
        self.no('part', 0, SHOP, (('box', 3), ('bulb', 1)), HELD)
        self.gives(lets_hold(SHOP, (('box', 3), ('bulb', 1)),
                             ('held', BUILDS, (('light', 'bulb', 1), ('light', 'candle', 1)))), True)
        self.no('part', 2, SHOP, (('box', 3), ('lamp', 1)), HELD)
        self.no('part', 3, SHOP, (('box', 3), ('plug', 2)), HELD)
        self.gives(lets_hold(SHOP, (('box', 3), ('plug', 1)), HELD), True)
        for at, part in enumerate(('pa', 'pb', 'pc')):
            self.no('part', at, SHARED, plus(ALL, part, 1), ALL_HELD)

    def test_prices(self):
        for prices in ((), PRICES[:-1], PRICES[1:], PRICES + PRICES[-1:], (None,) * 6, (None,) * 8,
                       tuple(price for price in PRICES if price[0] != 'light')):
            self.no('prices', -1, SHOP, FOUR, ('short', prices))

    def test_price(self):
        for at, (name, number) in enumerate(PRICES):
            wrong = [None, True, number, '', name, (), (name,), (name, number, 0), [name, number], (number, name),
                     (None, number), ([name], number), ('nosuch', number), PRICES[at - 1], (name, -1)]
            for other in wrong + [(name, number) for number in NO_INTEGERS]:
                self.no('price', at, SHOP, FOUR, ('short', changed(PRICES, at, other)))
        self.no('price', 0, SHOP, FOUR, ('short', PRICES[::-1]))
        # First the articles, then the choices: that is not their order.
        self.no('price', 4, SHOP, FOUR,
                ('short', tuple(price for price in PRICES if price[0] != 'light') + (('light', 0),)))

    def test_dear_choice(self):
        self.no('dear', (1, 0), SHOP, FOUR, priced(light=1))
        self.no('dear', (1, 0), SHOP, FOUR, priced(light=1, bulb=1))
        self.no('dear', (1, 0), SHOP, FOUR, priced(light=1, candle=1))
        self.no('worth', -1, SHOP, FOUR, priced(light=1, candle=1, bulb=1))
        shop = ((('pa', 0), ('pb', 0), ('pc', 0)), SHARED[1], ())
        sales = (('pa', 1), ('pb', 1), ('pc', 1))
        for numbers, wanted in (((1, 0, 0), 0), ((0, 1, 0), 1), ((0, 0, 1), 2), ((0, 1, 1), 1), ((1, 1, 1), 0)):
            prices = tuple(zip(('ca', 'cb', 'cc'), numbers)) + (('pa', 0), ('pb', 0), ('pc', 0))
            self.no('dear', (1, wanted), shop, sales, ('short', prices))

    def test_dear_pack(self):
        self.no('dear', (2, 0), SHOP, FOUR, priced(box=3))
        # One that can be taken apart is worth just what is in it, neither more nor less.
        self.no('dear', (2, 1), SHOP, FOUR, priced(trio=2))
        self.no('dear', (2, 1), SHOP, FOUR, priced(trio=0, box=1))
        self.no('dear', (2, 1), SHOP, FOUR, priced(plug=1))
        self.no('dear', (2, 0), SHOP, FOUR, priced(trio=0))
        # A count is a factor.
        self.no('worth', -1, STIFF, (('pair', 2),),
                ('short', (('bulb', 0), ('candle', 0), ('lamp', 1), ('pair', 2), ('plug', 0))))
        self.gives(lets_hold(STIFF, (('pair', 3),),
                             ('short', (('bulb', 0), ('candle', 0), ('lamp', 1), ('pair', 2), ('plug', 0)))), False)
        self.no('dear', (2, 0), STIFF, (('pair', 3),),
                ('short', (('bulb', 0), ('candle', 0), ('lamp', 1), ('pair', 3), ('plug', 0))))

    def test_worth(self):
        self.no('worth', -1, SHOP, THREE, SHORT)
        self.no('worth', -1, SHOP, FOUR, ('short', tuple((name, 0) for name, _ in PRICES)))
        # As much is not more: seven of what is worth one are there.
        self.no('worth', -1, SHOP, (('box', 3), ('lamp', 1)), SHORT)
        self.gives(lets_hold(SHOP, (('box', 3), ('lamp', 2)), SHORT), False)
        self.no('worth', -1, SHOP, (), SHORT)

    def test_two_at_once(self):
        wrong_build, wrong_gift = (('box', 2), ('trio', True)), (None,)
        self.no('builds', -1, SHOP, THREE, ('held', (None,), wrong_gift))
        self.no('build', 1, SHOP, THREE, ('held', wrong_build, wrong_gift))
        # A pack that lacks comes behind all builds, and ahead of the giving.
        self.no('build', 1, SHOP, THREE, ('held', (('box', 0), ('trio', None)), GIVEN))
        self.no('balance', 0, SHOP, THREE, ('held', (('box', 0), ('trio', -9)), wrong_gift))
        self.no('balance', 0, SHOP, THREE, ('held', (('box', -1), ('trio', -9)), wrong_gift))
        self.no('balance', 1, SHOP, THREE, ('held', (('box', 2), ('trio', 0)), wrong_gift))
        self.no('giving', 1, SHOP, (('box', 3), ('lamp', 9)), ('held', BUILDS, (('light', 'bulb', 9), None, None)))
        self.no('choice', 0, SHOP, (('box', 3), ('lamp', 9)), ('held', BUILDS, ()))
        self.no('choice', 1, SHARED, plus(ALL, 'pa', 1), ('held', ALL, ALL_HELD[2][:1]))
        self.no('part', 0, SHARED, plus(plus(ALL, 'pc', 1), 'pa', 1), ALL_HELD)
        self.no('prices', -1, SHOP, FOUR, ('short', (None,)))
        self.no('price', 2, SHOP, FOUR, ('short', changed(changed(PRICES, 2, None), 5, None)))
        self.no('price', 6, SHOP, FOUR, ('short', changed(changed(PRICES, 6, ('trio', -1)), 4, ('light', 9))))
        self.no('dear', (1, 0), SHOP, FOUR, priced(light=1, box=9, trio=9))
        self.no('dear', (2, 0), SHOP, FOUR, priced(box=11, trio=9))
        self.no('dear', (2, 1), SHOP, (), priced(box=2, trio=2))
        self.no('dear', (1, 1), (SHARED[0], SHARED[1], ()), (), ('short', (('ca', 0), ('cb', 1), ('cc', 1),
                                                                         ('pa', 0), ('pb', 0), ('pc', 0))))


class Consequences(Case):

    def test_the_turns_with_each_giving_that_fits(self):
        many = 0
        for at, shop in enumerate(CHOOSING + [SHOP, SHARED]):
            for sales in some_rows(shop, 8, at):
                turns, wanted, left = netting(shop, sales)
                needed = {choice: wanted[choice] for choice, _ in shop[1]}
                if min(left.values()) < 0 or sum(needed.values()) > 5:
                    continue
                for given in all_givings(shop, needed):
                    fits = all(sum(gift[2] for gift in given if gift[0] == choice) == needed[choice] for choice in needed)
                    fits = fits and all(sum(gift[2] for gift in given if gift[1] == part) <= left[part] for part in left)
                    paper = ('held', tuple(sorted(turns.items())), given)
                    if fits:
                        many += len(given) > 1
                        self.gives(lets_hold(shop, sales, paper), True)
                    else:
                        with self.assertRaises(InvalidPaper):
                            lets_hold(shop, sales, paper)
                if holds(shop, sales):
                    paper = ('held', netted(shop, sales)[0], givings(shop, sales))
                    self.gives(lets_hold(shop, sales, paper), True)
        self.assertGreater(many, 100)

    def test_more_builds(self):
        many = 0
        for at, shop in enumerate(SHOPS + CHOOSING[:20]):
            for sales in some_rows(shop, 8, at + 50):
                for builds in holding_builds(shop, sales):
                    needed = {choice: sum(dict(pack[3]).get(choice, 0) * builds[pack[0]] for pack in shop[2])
                              for choice, _ in shop[1]}
                    if sum(needed.values()) > 4:
                        continue
                    for given in all_givings(shop, needed):
                        if self.is_accepted(shop, sales, ('held', tuple(sorted(builds.items())), given)):
                            many += 1
                            self.assertTrue(holds(shop, sales))
        self.assertGreater(many, 300)

    def is_accepted(self, shop, sales, paper):
        try:
            lets_hold(shop, sales, paper)
        except InvalidPaper:
            return False
        return True

    def test_no_build_less_than_the_turn(self):
        accepted = 0
        for at, shop in enumerate(PLAIN):
            names = [pack[0] for pack in shop[2]]
            for sales in some_rows(shop, 8, at + 80, most=2):
                turns = netting(shop, sales)[0]
                for numbers in product(range(-3, 4), repeat=len(names)):
                    if self.is_accepted(shop, sales, ('held', tuple(zip(names, numbers)), ())):
                        accepted += 1
                        self.assertTrue(holds(shop, sales))
                        self.assertTrue(all(number >= turns[name] for name, number in zip(names, numbers)))
        self.assertGreater(accepted, 200)

    def test_what_is_accepted_is_true(self):
        # Any prices: those that are accepted are accepted for rows alone that do not hold.
        accepted, rng = 0, random.Random(3)
        for at, shop in enumerate(SHOPS):
            names = sorted(list(pieces(shop)) + [choice[0] for choice in shop[1]])
            for sales in some_rows(shop, 10, at + 30):
                for _ in range(25):
                    prices = {name: rng.randint(0, 2) for name in names}
                    for pack in shop[2] * 3:
                        worth = sum(count * prices[name] for name, count in pack[3])
                        prices[pack[0]] = worth if pack[2] else min(worth, prices[pack[0]] + rng.randint(0, 5))
                    if self.is_accepted(shop, sales, ('short', tuple(sorted(prices.items())))):
                        accepted += 1
                        self.assertFalse(holds(shop, sales))
        self.assertGreater(accepted, 300)

    def test_one_form_alone(self):
        for sales in (THREE, FOUR, (), (('lamp', 5),), (('lamp', 6),), (('bulb', 3),)):
            some = [self.is_accepted(SHOP, sales, paper) for paper in
                    (HELD, ('held', (('box', 0), ('trio', -1)), ()), ('held', (('box', 0), ('trio', 0)), ()),
                     SHORT, priced(box=0), priced(box=1, lamp=0, trio=0, bulb=1, candle=1, light=1))]
            self.assertFalse(any(some[:3]) and any(some[3:]))
            self.assertFalse(any(some[:3]) and not holds(SHOP, sales))
            self.assertFalse(any(some[3:]) and holds(SHOP, sales))


class Examples(Case):

    def test_of_the_document(self):
        self.gives([lets_hold(SHOP, (('box', 3),), ('held', (('box', 2), ('trio', 2)), (('light', 'bulb', 2),))),
                    lets_hold(SHOP, FOUR, ('short', PRICES))], [True, False])
        self.raises(InvalidPaper, {'word': 'balance', 'at': 1}, lets_hold, SHOP, (('box', 3),),
                    ('held', (('box', 2), ('trio', 0)), (('light', 'bulb', 2),)))
        self.raises(InvalidPaper, {'word': 'dear', 'at': (2, 0)}, lets_hold, SHOP, FOUR,
                    ('short', PRICES[:6] + (('trio', 0),)))


if __name__ == '__main__':
    unittest.main()
