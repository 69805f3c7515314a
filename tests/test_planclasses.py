"""Plans as objects: [33], with [31], [32] and [34]."""

import random
import unittest
from itertools import permutations

from kitsleft.deeds import behind, is_possible, serves
from kitsleft.errors import NotHeld, NotPossible
from kitsleft.holds import is_held, overasked
from kitsleft.planclasses import Plan, Serving

from tests.cases import Case
from tests.oracle import after, behind_all, deeds_of, holds, pieces, row
from tests.samples import DEEP, DEEPLY, NOTHINGS, PARTS, SHARED, SHOP, STIFF, some_rows, some_shops

SHOPS = some_shops(40, 231, choices=2, packs=3, stock=4) + [SHOP, STIFF, DEEP, SHARED]
BUILD, APART, LAMP = ('build', 'box', ((), ('bulb',), ())), ('apart', 'trio'), ('sell', 'lamp')
DEEDS = (LAMP, APART, ('build', 'trio', ((), ())), BUILD, ('sell', 'box'), LAMP)
SOME = (('box', 2), ('lamp', 1))
NO_DEEDS = NOTHINGS + ((), ('sell', 'light'), ('sell',), ('sell', 'box', 1), ['sell', 'lamp'], ('sell', ['lamp']),
                       ('apart', 'box'), ('build', 'box', ((), ('lamp',), ())), ('build', 'box', ()), ('buy', 'lamp'))
NO_NUMBERS = (None, True, False, -1, -2, '', '0', 'lamp', (), (0,), [0], (None,), DEEPLY, 10 ** 59)


class Left(Plan):
    """A plan of a class of its own."""


class Shut(Plan):
    """A plan that is made in another way."""

    def __init__(self, deeds):
        super().__init__(SHOP, deeds)


def some_deeds(shop, many, seed):
    """At most so many deeds of the shop that are possible one behind the other."""
    rng, there, deeds = random.Random(seed), pieces(shop), []
    for _ in range(many):
        possible = [deed for deed in deeds_of(shop) if after(shop, there, deed)]
        if possible:
            deeds.append(rng.choice(possible))
            there = after(shop, there, deeds[-1])
    return tuple(deeds)


class Plans(Case):

    def is_plan(self, one, shop, deeds):
        """It is of the class Plan itself, with these deeds in this shop."""
        self.assertIs(type(one), Plan)
        self.gives([one.start_now, one.deeds_now, one.shop_now], [shop, deeds, behind(shop, deeds)])

    def test_properties(self):
        sold = 0
        for at, shop in enumerate(SHOPS):
            deeds = some_deeds(shop, 8, at)
            one = Plan(shop, deeds)
            there = behind_all(shop, deeds)
            self.is_plan(one, shop, deeds)
            self.gives(one.shop_now, (tuple((name, there[name]) for name, _ in shop[0]), shop[1],
                                      tuple((name, there[name], *rest) for name, _, *rest in shop[2])))
            names = [deed[1] for deed in deeds if deed[0] == 'sell']
            self.gives(one.sold_now, row((name, names.count(name)) for name in set(names)))
            self.gives(serves(shop, deeds, one.sold_now), True)
            sold += len(one.sold_now)
        self.assertGreater(sold, 60)

    def test_nothing(self):
        one = Plan(shop=SHOP, deeds=())
        self.is_plan(one, SHOP, ())
        self.gives([len(one), list(one), one.sold_now, one(0), LAMP in one], [0, [], (), SHOP, False])
        self.refuses('k', lambda: one[0])

    def test_the_errors_of_behind(self):
        for wrong in (None, True, 0, '', 'sell', [], [LAMP], list(DEEDS)):
            self.refuses('deeds', Plan, SHOP, wrong)
        for wrong in NO_DEEDS:
            self.raises(NotPossible, {'at': 0}, Plan, SHOP, (wrong,))
            self.raises(NotPossible, {'at': 2}, Plan, SHOP, (LAMP, APART, wrong, wrong))
        self.raises(NotPossible, {'at': 1}, Plan, SHOP, (APART, BUILD))
        self.raises(NotPossible, {'at': 4}, Plan, SHOP, (LAMP,) * 6)

    def test_deeds_by_index(self):
        one = Plan(SHOP, DEEDS)
        self.gives([one[k] for k in range(6)], list(DEEDS))
        for wrong in NO_NUMBERS + (6, 7, -6, slice(0, 1)):
            self.refuses('k', lambda: one[wrong])

    def test_shops_on_the_way(self):
        one = Plan(SHOP, DEEDS)
        self.gives([one(many) for many in range(7)], [behind(SHOP, DEEDS[:many]) for many in range(7)])
        self.gives([one(0), one(many=6)], [SHOP, one.shop_now])
        for wrong in NO_NUMBERS + (7, 8):
            self.refuses('many', one, wrong)

    def test_first(self):
        for one in (Plan(SHOP, DEEDS), Left(SHOP, DEEDS), Shut(DEEDS)):
            for many in range(7):
                self.is_plan(one.first(many), SHOP, DEEDS[:many])
            self.is_plan(one.first(many=2), SHOP, DEEDS[:2])
            for wrong in NO_NUMBERS + (7, 8):
                self.refuses('many', one.first, wrong)

    def test_in(self):
        one = Plan(SHOP, DEEDS)
        self.gives([deed in one for deed in DEEDS], [True] * 6)
        for wrong in NO_DEEDS + (('sell', 'plug'), ('build', 'box', ((), ('candle',), ())), DEEDS, (LAMP,), list(LAMP),
                                 ('build', 'box', [(), ('bulb',), ()]), 0, 1):
            self.gives(wrong in one, False)
        self.gives([LAMP in one.first(0), LAMP in one.first(1), BUILD in one.first(3), BUILD in one.first(4)],
                   [False, True, False, True])

    def test_how_many_and_which(self):
        one = Plan(SHOP, DEEDS)
        self.gives([len(one), list(one), [deed for deed in one]], [6, list(DEEDS), list(DEEDS)])
        self.gives([len(one.first(2)), list(one.first(2))], [2, [LAMP, APART]])

    def test_plus(self):
        for make in (Plan, Left, lambda shop, deeds: Shut(deeds)):
            one = make(SHOP, ())
            for many, deed in enumerate(DEEDS):
                one = one + deed
                self.is_plan(one, SHOP, DEEDS[:many + 1])
            for wrong in NO_DEEDS:
                self.raises(NotPossible, {'at': 6}, lambda: one + wrong)
            self.raises(NotPossible, {'at': 6}, lambda: one + DEEDS)
            self.raises(NotPossible, {'at': 6}, lambda: one + one)
        self.raises(NotPossible, {'at': 1}, lambda: Plan(SHOP, (APART,)) + APART)
        self.raises(NotPossible, {'at': 0}, lambda: Plan(SHOP, ()) + None)

    def test_plus_leaves_the_plan(self):
        one = Plan(SHOP, DEEDS)
        kept = one
        one += ('sell', 'plug')
        self.gives([len(kept), len(one), kept.deeds_now], [6, 7, DEEDS])
        self.assertIs(type(one), Plan)

    def test_then(self):
        for at, shop in enumerate(SHOPS):
            deeds = some_deeds(shop, 8, at + 60)
            for many in range(len(deeds) + 1):
                early, late = Plan(shop, deeds[:many]), Plan(behind(shop, deeds[:many]), deeds[many:])
                self.is_plan(early.then(late), shop, deeds)
                self.is_plan(Left(shop, deeds[:many]).then(other=late), shop, deeds)
        self.is_plan(Shut(DEEDS[:2]).then(Left(behind(SHOP, DEEDS[:2]), DEEDS[2:])), SHOP, DEEDS)
        self.is_plan(Plan(SHOP, ()).then(Shut(DEEDS)), SHOP, DEEDS)
        self.is_plan(Plan(SHOP, ()).then(Serving(SHOP, (('lamp', 1),))), SHOP, Serving(SHOP, (('lamp', 1),)).deeds_now)

    def test_then_no_other(self):
        one = Plan(SHOP, (LAMP,))
        for wrong in NO_DEEDS + (LAMP, (LAMP,), SHOP, behind(SHOP, (LAMP,)), Plan, one, Plan(SHOP, ()),
                                 Plan(STIFF, ()), Plan(behind(SHOP, (LAMP, LAMP)), ())):
            self.refuses('other', one.then, wrong)
        # One whose deeds would be possible, but in another shop.
        self.refuses('other', one.then, Plan((PARTS, SHOP[1], ()), (LAMP,)))
        self.is_plan(Plan(SHOP, ()).then(Plan(SHOP, (LAMP,))), SHOP, (LAMP,))

    def test_equal(self):
        one = Plan(SHOP, DEEDS)
        for other in (Plan(SHOP, DEEDS), Left(SHOP, DEEDS), Shut(DEEDS), Plan(tuple(list(SHOP)), tuple(list(DEEDS))),
                      one.first(3) + DEEDS[3] + DEEDS[4] + DEEDS[5]):
            self.assertTrue(one == other and other == one)
            self.assertFalse(one != other or other != one)
        serving = Serving(SHOP, SOME)
        self.assertTrue(serving == Plan(SHOP, serving.deeds_now))
        self.assertTrue(Plan(SHOP, serving.deeds_now) == serving)
        more = ((('bulb', 3),) + PARTS[1:],) + SHOP[1:]
        for other in (Plan(SHOP, DEEDS[:5]), Plan(SHOP, DEEDS[1:2] + DEEDS[:1]), Plan(more, DEEDS), Left(more, DEEDS),
                      SHOP, DEEDS, (SHOP, DEEDS), Plan, *NO_DEEDS):
            self.assertFalse(one == other)
            self.assertTrue(one != other)
        # The same deeds in another order lead to the same shop, and are another plan.
        first, second = Plan(SHOP, (LAMP, APART)), Plan(SHOP, (APART, LAMP))
        self.gives([first.shop_now == second.shop_now, first == second], [True, False])
        self.assertFalse(Plan(SHOP, ()) == Plan(STIFF, ()))

    def test_it_never_changes(self):
        one = Plan(SHOP, DEEDS)
        one + ('sell', 'plug')
        one.first(1)
        one.then(Plan(one.shop_now, (LAMP,)))
        one(2)
        list(one).clear()
        self.is_plan(one, SHOP, DEEDS)
        for name in ('start_now', 'deeds_now', 'shop_now', 'sold_now'):
            with self.assertRaises(AttributeError):
                setattr(one, name, ())

    def test_two_hundred_deeds(self):
        again = (('build', 'trio', ((), ())), APART)
        one = Plan(SHOP, again * 100)
        self.gives([len(one), one.shop_now, one(199) == SHOP], [200, SHOP, False])
        self.raises(NotPossible, {'at': 201}, lambda: one + APART + APART)


class Servings(Case):

    def serves_row(self, one, shop, sales, order):
        self.gives([one.start_now, one.sold_now, serves(shop, one.deeds_now, sales)], [shop, sales, True])
        self.gives(one.order_now, tuple(deed[1] for deed in one.deeds_now if deed[0] == 'sell'))
        self.assertIsNotNone(behind_all(shop, one.deeds_now))
        self.gives(one.shop_now, behind(shop, one.deeds_now))
        if order:
            self.gives(one.order_now, order)
        else:
            self.gives(row((name, one.order_now.count(name)) for name in set(one.order_now)), sales)

    def test_rows(self):
        many = 0
        for at, shop in enumerate(SHOPS):
            for sales in some_rows(shop, 12, at):
                order = tuple(name for name, number in sales for _ in range(number))
                for some in ((), order, order[::-1], order[1::2] + order[::2]):
                    if holds(shop, sales):
                        many += len(some) > 2
                        self.serves_row(Serving(shop, sales, *some), shop, sales, some)
                    else:
                        self.raises(NotHeld, {'short': overasked(shop, sales)}, Serving, shop, sales, *some)
        self.assertGreater(many, 100)

    def test_each_order(self):
        for order in set(permutations(('box', 'box', 'lamp', 'trio'))):
            sales = (('box', 2), ('lamp', 1), ('trio', 1))
            self.serves_row(Serving(SHOP, sales, *order), SHOP, sales, order)

    def test_nothing_to_serve(self):
        self.serves_row(Serving(SHOP, ()), SHOP, (), ())
        self.gives(Serving(shop=SHOP, sales=()).order_now, ())

    def test_no_rows(self):
        for wrong in NOTHINGS + ((('light', 1),), (('lamp', 1), ('box', 1)), 0):
            self.refuses('sales', Serving, SHOP, wrong)
            self.refuses('sales', Serving, SHOP, wrong, None)

    def test_no_orders(self):
        for wrong in (('box', 'lamp'), ('box', 'box', 'lamp', 'lamp'), ('box', 'box', 'box'), ('box', 'box', 'light'),
                      ('box', 'box', None), (None,), (('box', 'box', 'lamp'),), (['box', 'box', 'lamp'],), (True,), ((),),
                      ('box', 'box', 'lamp', None), ('box', 'box', ['lamp']), (DEEPLY,)):
            self.refuses('order', Serving, SHOP, SOME, *wrong)
            # The order is refused ahead of a row that does not hold.
            self.refuses('order', Serving, SHOP, (('box', 4),), *wrong)
        self.refuses('order', Serving, SHOP, (), 'lamp')
        self.refuses('order', Serving, SHOP, (), None)

    def test_it_does_not_hold(self):
        self.raises(NotHeld, {'short': ((), ('lamp',))}, Serving, SHOP, (('box', 4),))
        self.raises(NotHeld, {'short': ((), ('lamp',))}, Serving, SHOP, (('box', 4),), *['box'] * 4)
        self.raises(NotHeld, {'short': (('light',), ('bulb', 'candle'))}, Serving, SHOP, (('box', 3), ('bulb', 2)))

    def test_it_is_a_plan(self):
        one = Serving(SHOP, SOME, 'lamp', 'box', 'box')
        self.assertIsInstance(one, Plan)
        self.gives([len(one), list(one), one[0] in one, one(0)],
                   [len(one.deeds_now), list(one.deeds_now), True, SHOP])
        for other, deeds in ((one.first(2), one.deeds_now[:2]), (one + ('sell', 'plug'), (*one, ('sell', 'plug'))),
                             (one.then(Plan(one.shop_now, ())), one.deeds_now)):
            self.assertIs(type(other), Plan)
            self.gives(other.deeds_now, deeds)
        self.refuses('many', one.first, len(one) + 1)
        self.raises(NotPossible, {'at': len(one)}, lambda: one + None)
        with self.assertRaises(AttributeError):
            one.order_now = ()


class Consequences(Case):

    def test_what_is_served_holds(self):
        for at, shop in enumerate(SHOPS):
            one = Plan(shop, some_deeds(shop, 10, at + 200))
            for many in range(len(one) + 1):
                self.gives(is_held(shop, one.first(many).sold_now), True)
                # What is sold behind the first deeds holds behind them.
                self.gives(is_held(one(many), Plan(one(many), one.deeds_now[many:]).sold_now), True)

    def test_a_deed_can_be_added_exactly_if_it_is_possible(self):
        for at, shop in enumerate(SHOPS[:15]):
            one = Plan(shop, some_deeds(shop, 4, at + 300))
            for deed in deeds_of(shop):
                if is_possible(one.shop_now, deed):
                    self.gives((one + deed).shop_now, behind(one.shop_now, (deed,)))
                else:
                    self.raises(NotPossible, {'at': len(one)}, lambda: one + deed)


class Examples(Case):

    def test_of_the_document(self):
        one = Plan(SHOP, (APART, ('sell', 'lamp')))
        self.gives([len(one), one[0], one(1)[0][2], one.sold_now, APART in one, one.first(1).shop_now[2][1][1],
                    one.first(1).then(Plan(one(1), (('sell', 'lamp'),))) == one],
                   [2, ('apart', 'trio'), ('lamp', 5), (('lamp', 1),), True, 0, True])
        self.gives([Serving(SHOP, SOME, 'lamp', 'box', 'box').order_now, Serving(SHOP, SOME).sold_now],
                   [('lamp', 'box', 'box'), (('box', 2), ('lamp', 1))])
        self.raises(NotPossible, {'at': 2}, lambda: one + APART)


if __name__ == '__main__':
    unittest.main()
