"""A hand without foresight: [35], [45], [46], with [8] and (G2) of [9]."""

import random
import unittest
from itertools import permutations

from kitsleft.errors import NothingToUndo
from kitsleft.handless import Hand, hand_serves

from tests.cases import Case
from tests.oracle import articles, hand_gets, holds, pieces, row, rows_to
from tests.samples import DEEP, DEEPLY, NOTHINGS, PACKS, PARTS, SHARED, SHOP, STIFF, some_shops

PLAIN = (PARTS, (), (('set', 0, False, (('lamp', 1), ('trio', 1))), PACKS[1]))
SHOPS = some_shops(80, 101, choices=0, packs=4, stock=3) + [STIFF, DEEP, PLAIN]
NO_ARTICLES = NOTHINGS + (('set',), 'light', 'box', 0, ('lamp', 'lamp'))


def some_orders(shop, many, seed, length=9):
    rng = random.Random(seed)
    names = articles(shop)
    for _ in range(many):
        # Few articles: so they come often, and are refused in the end.
        some = rng.sample(names, min(3, len(names)))
        yield tuple(rng.choice(some) for _ in range(rng.randint(0, length)))


def by_hand(shop, order, pick):
    """Which sales are served by deeds of [8], piece by piece; pick chooses the pack that is taken apart."""
    there = pieces(shop)
    found = []
    for article in order:
        trial = dict(there)
        found.append(hand_gets(shop, trial, article, pick))
        if found[-1]:
            there = trial
    return tuple(found)


class Serves(Case):

    def test_against_the_deeds_of_a_hand(self):
        refused = 0
        for at, shop in enumerate(SHOPS):
            for order in some_orders(shop, 12, at):
                result = hand_serves(shop, order)
                refused += result.count(False)
                for pick in (min, max, random.Random(at).choice, random.Random(-at).choice):
                    self.gives(result, by_hand(shop, order, pick))
        self.assertGreater(refused, 1000)

    def test_served_exactly_if_it_holds(self):
        for at, shop in enumerate(SHOPS):
            for order in some_orders(shop, 6, at + 500):
                served = []
                for article, fits in zip(order, hand_serves(shop, order)):
                    some = served + [article]
                    self.gives(fits, holds(shop, row((name, some.count(name)) for name in set(some))))
                    if fits:
                        served = some

    def test_what_it_refused_it_always_refuses(self):
        for at, shop in enumerate(SHOPS):
            for order in some_orders(shop, 6, at + 700):
                refused = set()
                for article, fits in zip(order, hand_serves(shop, order)):
                    self.assertFalse(fits and article in refused)
                    if not fits:
                        refused.add(article)

    def test_a_row_that_holds_in_each_order(self):
        for shop in SHOPS[:30]:
            for sales in list(rows_to(shop, 2))[::7]:
                order = [name for name, number in sales for _ in range(number)]
                if len(order) <= 4 and holds(shop, sales):
                    for some in permutations(order):
                        self.gives(hand_serves(shop, some), (True,) * len(order))

    def test_nothing(self):
        self.gives(hand_serves(PLAIN, ()), ())
        self.gives(hand_serves(shop=PLAIN, order=('plug',)), (True,))

    def test_a_refused_sale_changes_nothing(self):
        # The set wants a trio, which is taken and not given back in vain: no lamp is left beside it.
        shop = ((('lamp', 0), ('plug', 2)), (), PLAIN[2])
        self.gives(hand_serves(shop, ('set', 'set', 'trio', 'trio')), (False, False, True, False))
        self.gives(hand_serves(shop, ('set', 'lamp', 'plug', 'plug', 'plug', 'plug', 'plug')),
                   (False, True, True, True, True, True, False))

    def test_a_chain_of_packs_that_can_be_taken_apart(self):
        soft, stiff = (('bag', 1, True, (('jar', 2),)), ('jar', 0, True, (('bean', 3),))), \
                      (('bag', 1, True, (('jar', 2),)), ('jar', 0, False, (('bean', 3),)))
        parts = (('bean', 0),)
        self.gives(hand_serves((parts, (), soft), ('bean',) * 7), (True,) * 6 + (False,))
        self.gives(hand_serves((parts, (), stiff), ('bean', 'jar', 'jar', 'jar', 'bag')),
                   (False, True, True, False, False))
        # What cannot be taken apart outside keeps all that is in it.
        outer = (('bag', 1, False, (('jar', 2),)), ('jar', 0, True, (('bean', 3),)))
        self.gives(hand_serves((parts, (), outer), ('bean', 'jar', 'bag', 'bag')), (False, False, True, False))

    def test_a_shop_with_choices(self):
        for shop in (SHOP, SHARED, (PARTS, SHOP[1], ())):
            for order in ((), ('lamp',), None, ['lamp']):
                self.refuses('shop', hand_serves, shop, order)

    def test_no_orders(self):
        for wrong in [wrong for wrong in NOTHINGS if wrong != ('lamp',)] + [
                'lamp', 0, (None,), ('lamp', None), ('lamp', 'light'), ('box',), (['lamp'],), (('lamp',),),
                ['lamp', 'lamp'], ('lamp', 1), ('lamp', True), ('nosuch',), (DEEPLY,)]:
            self.refuses('order', hand_serves, PLAIN, wrong)


class Hands(Case):

    def test_no_shop(self):
        for wrong in NOTHINGS + (SHOP, SHARED, list(PLAIN), PLAIN[:2], PLAIN + ((),), (PARTS, (), ()) + ((),),
                                 ((), (), ()), (PARTS, [], ()), Hand, ((('a', True),), (), ())):
            self.refuses('shop', Hand, wrong)

    def test_sales_one_by_one(self):
        for at, shop in enumerate(SHOPS):
            for order in some_orders(shop, 4, at + 900, length=12):
                hand, result = Hand(shop), []
                for article in order:
                    would = hand(article)
                    result.append(hand.sell(article))
                    self.gives(would, result[-1])
                self.gives(tuple(result), hand_serves(shop, order))
                served = [article for article, fits in zip(order, result) if fits]
                self.gives(hand.served_now, row((name, served.count(name)) for name in set(served)))
                self.gives(hand.refused_now, tuple(article for article, fits in zip(order, result) if not fits))
                self.gives([len(hand), list(hand), hand.shop_now], [len(served), served, shop])
                self.gives([name in hand for name in articles(shop)], [name in served for name in articles(shop)])

    def test_at_the_beginning(self):
        hand = Hand(shop=PLAIN)
        self.gives([hand.shop_now, hand.served_now, hand.refused_now, len(hand), list(hand)], [PLAIN, (), (), 0, []])

    def test_whether_it_would_changes_nothing(self):
        hand = Hand(PLAIN)
        for _ in range(9):
            self.gives([hand('lamp'), hand(article='set')], [True, True])
        self.gives([len(hand), hand == Hand(PLAIN)], [0, True])
        for _ in range(6):
            hand.sell('lamp')
        self.gives([hand('lamp'), hand('lamp'), hand.refused_now], [False, False, ('lamp',)])

    def test_no_articles(self):
        hand = Hand(PLAIN)
        hand.sell('lamp')
        for wrong in NO_ARTICLES:
            self.refuses('article', hand.sell, wrong)
            self.refuses('article', hand, wrong)
            with self.assertRaises(ValueError) as error:
                hand += wrong
            self.assertEqual([type(error.exception).__name__, error.exception.word, error.exception.at],
                             ['NotUsable', 'article', -1])
        self.gives([list(hand), hand.refused_now], [['lamp'], ()])

    def test_plus(self):
        hand = same = Hand(PLAIN)
        for _ in range(6):
            hand += 'lamp'
        self.assertIs(hand, same)
        self.gives([len(hand), hand.served_now, hand.refused_now], [5, (('lamp', 5),), ('lamp',)])
        self.gives([hand.undo(), len(hand), hand.undo(), len(hand)], ['lamp', 5, 'lamp', 4])

    def test_undo(self):
        rng = random.Random(7)
        for at, shop in enumerate(SHOPS[:40]):
            hand, before = Hand(shop), []
            for article in list(some_orders(shop, 1, at + 40, length=12))[0]:
                before.append((article, hand.served_now, hand.refused_now, list(hand)))
                hand.sell(article)
                if rng.random() < 0.3:
                    self.check_undo(hand, before.pop())
            while before:
                self.check_undo(hand, before.pop())
            self.raises(NothingToUndo, {'steps': 0}, hand.undo)
            self.assertEqual(hand, Hand(shop))

    def check_undo(self, hand, before):
        article, served, refused, order = before
        self.gives([hand.undo(), hand.served_now, hand.refused_now, list(hand), len(hand)],
                   [article, served, refused, order, len(order)])

    def test_nothing_to_undo(self):
        hand = Hand(PLAIN)
        self.raises(NothingToUndo, {'steps': 0}, hand.undo)
        hand.sell('lamp')
        hand.undo()
        self.raises(NothingToUndo, {'steps': 0}, hand.undo)
        self.gives(hand.sell('lamp'), True)

    def test_in(self):
        hand = Hand(PLAIN)
        for _ in range(3):
            hand.sell('trio')
        hand.sell('set')
        self.gives([hand.refused_now, 'trio' in hand, 'set' in hand, 'lamp' in hand], [('set',), True, False, False])
        for wrong in NO_ARTICLES:
            self.gives(wrong in hand, False)

    def test_equal(self):
        def hand_of(shop, *order):
            hand = Hand(shop)
            for article in order:
                hand.sell(article)
            return hand
        six = ('lamp',) * 6
        self.assertTrue(hand_of(PLAIN, 'set', 'trio') == hand_of(PLAIN, 'set', 'trio'))
        self.assertFalse(hand_of(PLAIN, 'set', 'trio') != hand_of(PLAIN, 'set', 'trio'))
        # Another order, another shop, a sale more; a refused one among the others at another place.
        self.assertFalse(hand_of(PLAIN, 'set', 'trio') == hand_of(PLAIN, 'trio', 'set'))
        self.assertFalse(hand_of(PLAIN, 'lamp') == hand_of(STIFF, 'lamp'))
        self.assertFalse(hand_of(PLAIN) == hand_of(PLAIN, 'plug'))
        self.assertFalse(hand_of(PLAIN, *six) == hand_of(PLAIN, *six[1:]))
        first, last = hand_of(PLAIN, *six, 'plug'), hand_of(PLAIN, *six[1:], 'plug', 'lamp')
        self.gives([first.served_now == last.served_now, first.refused_now == last.refused_now,
                    list(first) == list(last)],
                   [True, True, True])
        self.assertFalse(first == last)
        self.assertTrue(hand_of(PLAIN, *six) == hand_of(tuple(list(PLAIN)), *list(six)))
        for other in NOTHINGS + (PLAIN, 0, ()):
            self.assertFalse(hand_of(PLAIN) == other)
            self.assertTrue(hand_of(PLAIN) != other)

    def test_refused_sales_count_for_equality(self):
        shop = ((('pa', 0), ('pb', 0)), (), ())
        one, other = Hand(shop), Hand(shop)
        one.sell('pa')
        other.sell('pb')
        self.assertFalse(one == other)
        other.undo()
        other += 'pa'
        self.assertTrue(one == other)

    def test_a_hand_of_a_derived_class(self):
        class Left(Hand):
            pass
        one, other = Hand(PLAIN), Left(PLAIN)
        self.assertTrue(one == other)
        other.sell('lamp')
        self.assertFalse(one == other)

    def test_hands_stay_apart(self):
        one, other = Hand(PLAIN), Hand(PLAIN)
        one.sell('lamp')
        self.gives([len(one), len(other), other.refused_now], [1, 0, ()])


class Examples(Case):

    def test_of_the_document(self):
        self.gives([hand_serves(PLAIN, ('set', 'lamp', 'lamp', 'lamp', 'lamp', 'plug')),
                    hand_serves(PLAIN, ('lamp',) * 6)],
                   [(True, True, True, True, False, True), (True, True, True, True, True, False)])
        hand = Hand(PLAIN)
        self.gives([hand.sell('set'), hand('trio'), hand.sell('trio'), hand.sell('trio'), hand.served_now, len(hand)],
                   [True, True, True, True, (('set', 1), ('trio', 2)), 3])
        self.gives([hand.sell('trio'), hand.refused_now, hand.undo(), hand.refused_now, list(hand), 'plug' in hand],
                   [False, ('trio',), 'trio', (), ['set', 'trio', 'trio'], False])
        self.refuses('shop', Hand, SHOP)


if __name__ == '__main__':
    unittest.main()
