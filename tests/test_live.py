"""A live shop: what its events do, and when they are not possible: [62] to [68], and [72] of log and str."""

import random
import unittest

from kitsleft.errors import InvalidEvent, InvalidPaper
from kitsleft.eventtexts import event_line
from kitsleft.live import LiveShop

from tests.cases import Case
from tests.events import EVENTS, FORMS
from tests.livemodel import Model, some_event
from tests.oracle import articles, deeds_of, holds, netting
from tests.samples import CHOICES, DEEP, DEEPLY, NOTHINGS, PACKS, PARTS, SHARED, SHOP, STIFF, some_shops

SHOPS = some_shops(30, 121, choices=2, packs=3, stock=4) + [SHOP, STIFF, DEEP, SHARED]
NO_ARTICLES = tuple(wrong for wrong in NOTHINGS if wrong not in ('lamp', 'box')) + ('light', 'nosuch', 0, ('box', 1))
BULB_BOX = ('build', 'box', ((), ('bulb',), ()))


def live_with(shop, *events):
    live = LiveShop(shop)
    for event in events:
        live.go(event)
    return live


def seen(live):
    """All that a live shop tells, but its tally."""
    return [live.shop_now, live.owed_now, live.given_now, live.holds_now, live.held_now, live.asked_now, live.shown(),
            live.needed(), live.givable(), live.table(), live.log(), str(live), len(live), list(live)]


class Against(Case):

    def check(self, live, model):
        self.gives([live.shop_now, live.owed_now, live.given_now],
                   [model.shop_now(), tuple(pair for pair in sorted(model.owed.items()) if pair[1]),
                    tuple(pair for pair in sorted(model.given.items()) if pair[1])])
        self.gives([live.holds_now, live.held_now, live.asked_now],
                   [tuple(sorted((name, *hold) for name, hold in model.holds.items())), model.held(), model.asked()])
        self.gives([live.log(), len(live), live.table()],
                   [(('live', model.shop), *model.events), len(model.events), model.table()])
        self.gives(live.givable(),
                   tuple(name for name in articles(model.shop) if model.owed[name] and model.there[name]))
        for name in articles(model.shop):
            self.gives(live[name], (model.there[name], model.owed[name], dict(model.held()).get(name, 0)))

    def test_many_events(self):
        reasons = {}
        for at, shop in enumerate(SHOPS):
            rng = random.Random(at)
            live, model = LiveShop(shop), Model(shop)
            for step in range(120):
                event = some_event(model, rng)
                reason = model.reason(event)
                self.gives(live.barred(event), reason)
                reasons[(event[0], reason)] = reasons.get((event[0], reason), 0) + 1
                if reason is None:
                    self.gives(live.go(event), model.apply(event))
                else:
                    self.raises(InvalidEvent, {'event': event, 'reason': reason}, live.go, event)
                self.check(live, model)
                if step % 10 == 0:
                    self.gives(live.shown(), model.shown())
        # Each word with each reason that there is for it.
        wanted = [(word, None) for word in FORMS] + [(word, 'full') for word in FORMS] + [
            ('owe', 'article'), ('give', 'article'), ('back', 'article'), ('hold', 'article'), ('goods', 'part'),
            ('build', 'pack'), ('apart', 'pack'), ('hold', 'twice'), ('note', 'twice'), ('free', 'name'),
                                                                                          ('buy', 'name'),
            ('give', 'owed'), ('give', 'there'), ('back', 'given'), ('build', 'deed'), ('apart', 'deed'),
            ('owe', 'short'), ('hold', 'short'), ('build', 'short')]
        self.assertEqual([pair for pair in wanted if reasons.get(pair, 0) < 3], [])
        self.assertEqual(set(reasons) - set(wanted), set())


class Beginning(Case):

    def test_the_errors_of_lets_shop(self):
        for shop, word, at in ((None, 'shape', -1), ((), 'shape', -1), (list(SHOP), 'shape', -1), (DEEPLY, 'shape', -1),
                               ((PARTS, (), PACKS), 'sheet', (0, 1)), ((PARTS, CHOICES, PACKS + (1,)), 'pack', 2),
                               (((('a', True),), (), ()), 'part', 0), ((PARTS, (('plug', ('bulb', 'candle')),), ()),
                                                                       'name', (1, 0)),
                               ((PARTS, (), (('a', 0, True, (('b', 1),)), ('b', 0, True, (('a', 1),)))), 'ring', 0)):
            self.raises(InvalidPaper, {'word': word, 'at': at}, LiveShop, shop)

    def test_what_there_is(self):
        live = LiveShop(shop=SHOP)
        self.gives([live.shop_now, live.owed_now, live.given_now, live.holds_now, live.held_now, live.asked_now],
                   [SHOP, (), (), (), (), ()])
        self.gives([live.log(), str(live), len(live), live.tally(), live.givable()],
                   [(('live', SHOP),), '-', 0, (0, 0), ()])
        self.gives(live.shown(), (('box', 3), ('bulb', 2), ('candle', 1), ('lamp', 5), ('plug', 7), ('trio', 3)))

    def test_most(self):
        self.gives([LiveShop.MOST, LiveShop(SHOP).MOST], [40, 40])


class EachEvent(Case):

    def goes(self, live, event, answer, **later):
        """The event has this answer, and changes of what the live shop tells just this."""
        before = {name: getattr(live, name) for name in ('shop_now', 'owed_now', 'given_now', 'holds_now')}
        self.gives(live.go(event), answer)
        for name, worth in before.items():
            self.gives(getattr(live, name), later.get(name, worth))
        self.gives(live.log()[-1], event)

    def shop(self, **numbers):
        """The shop of the document with these pieces instead."""
        return tuple(tuple((row[0], numbers.get(row[0], row[1])) + row[2:] for row in rows) for rows in SHOP)

    def test_owe(self):
        live = LiveShop(SHOP)
        self.goes(live, ('owe', 'box'), 1, owed_now=(('box', 1),))
        self.goes(live, ('owe', 'box'), 2, owed_now=(('box', 2),))
        self.goes(live, ('owe', 'lamp'), 1, owed_now=(('box', 2), ('lamp', 1)))

    def test_give(self):
        live = live_with(SHOP, ('owe', 'lamp'), ('owe', 'lamp'), ('owe', 'box'))
        self.goes(live, ('give', 'lamp'), 3, shop_now=self.shop(lamp=3), owed_now=(('box', 1), ('lamp', 1)),
                  given_now=(('lamp', 1),))
        self.goes(live, ('give', 'box'), 0, shop_now=self.shop(lamp=3, box=0), owed_now=(('lamp', 1),),
                  given_now=(('box', 1), ('lamp', 1)))
        self.goes(live, ('give', 'lamp'), 2, shop_now=self.shop(lamp=2, box=0), owed_now=(),
                  given_now=(('box', 1), ('lamp', 2)))

    def test_back(self):
        live = live_with(SHOP, ('owe', 'lamp'), ('owe', 'trio'), ('give', 'trio'), ('give', 'lamp'))
        self.goes(live, ('back', 'trio'), 1, shop_now=self.shop(lamp=3), given_now=(('lamp', 1),))
        self.goes(live, ('back', 'lamp'), 4, shop_now=SHOP, given_now=())

    def test_hold_free_buy(self):
        live = LiveShop(SHOP)
        self.goes(live, ('hold', 'bob', 'box', 2), None, holds_now=(('bob', 'box', 2),))
        self.goes(live, ('hold', 'ann', 'trio', 1), None, holds_now=(('ann', 'trio', 1), ('bob', 'box', 2)))
        self.goes(live, ('hold', 'eve', 'box', 1), None,
                  holds_now=(('ann', 'trio', 1), ('bob', 'box', 2), ('eve', 'box', 1)))
        self.gives([live.held_now, live.asked_now], [(('box', 3), ('trio', 1))] * 2)
        self.goes(live, ('buy', 'bob'), 2, holds_now=(('ann', 'trio', 1), ('eve', 'box', 1)), owed_now=(('box', 2),))
        self.gives([live.held_now, live.asked_now], [(('box', 1), ('trio', 1)), (('box', 3), ('trio', 1))])
        self.goes(live, ('free', 'ann'), 1, holds_now=(('eve', 'box', 1),))
        self.goes(live, ('buy', 'eve'), 1, holds_now=(), owed_now=(('box', 3),))
        self.gives([live.held_now, live.asked_now], [(), (('box', 3),)])

    def test_a_name_is_free_again(self):
        live = live_with(SHOP, ('hold', 'ann', 'box', 2), ('free', 'ann'))
        self.goes(live, ('hold', 'ann', 'lamp', 1), None, holds_now=(('ann', 'lamp', 1),))
        self.goes(live, ('buy', 'ann'), 1, holds_now=(), owed_now=(('lamp', 1),))
        self.goes(live, ('hold', 'ann', 'lamp', 3), None, holds_now=(('ann', 'lamp', 3),))

    def test_goods(self):
        self.goes(LiveShop(SHOP), ('goods', 'lamp', 3), 7, shop_now=self.shop(lamp=7))
        self.goes(LiveShop(SHOP), ('goods', 'plug', 60), 65, shop_now=self.shop(plug=65))

    def test_build_and_apart(self):
        live = LiveShop(SHOP)
        self.goes(live, ('build', 'box', ((), ('candle',), ())), 2, shop_now=self.shop(box=2, candle=0, lamp=3, trio=0))
        self.goes(live, ('build', 'trio', ((), ())), 1, shop_now=self.shop(box=2, candle=0, lamp=2, plug=3, trio=1))
        self.goes(live, ('apart', 'trio'), 0, shop_now=self.shop(box=2, candle=0, lamp=3, plug=5, trio=0))

    def test_note(self):
        live = live_with(SHOP, ('owe', 'box'))
        self.goes(live, ('note', 'noon'), None)
        self.goes(live, ('note', 'box'), None)

    def test_a_hold_and_a_note_of_one_name(self):
        live = live_with(SHOP, ('hold', 'ann', 'box', 1), ('note', 'ann'))
        self.gives([live.barred(('hold', 'ann', 'box', 1)), live.barred(('note', 'ann'))], ['twice', 'twice'])
        live.go(('free', 'ann'))
        self.gives([live.barred(('hold', 'ann', 'box', 1)), live.barred(('note', 'ann'))], [None, 'twice'])


class EachReason(Case):

    def barred(self, live, event, reason):
        """Refused for this reason, however it is told, and nothing is changed."""
        before = seen(live)
        self.gives(live.barred(event), reason)
        for call in (live.go, live, live.tried, live.do_all):
            try:
                call(event)
            except InvalidEvent as error:
                self.assertIs(error.event, event)
                self.gives(error.reason, reason)
            else:
                self.fail(f'{event!r} was possible')
        self.gives(seen(live), before)

    def full(self):
        return live_with(SHOP, *[('goods', 'plug', 1)] * 40)

    def test_shape(self):
        wrong = [event[:place + 1] + (worth,) + event[place + 2:] for events, worths in FORMS.values()
                 for event in events for place, some in enumerate(worths) for worth in some]
        for event in wrong + list(NOTHINGS) + [(), 'owe box', ['owe', 'box'], ('sell', 'box'), ('owe',),
                                               ('live', SHOP)]:
            self.barred(LiveShop(SHOP), event, 'shape')

    def test_shape_ahead_of_full(self):
        self.barred(self.full(), ('owe', None), 'shape')

    def test_full(self):
        live = self.full()
        self.gives(len(live), 40)
        for event in EVENTS:
            self.barred(live, event, 'full')
        live.undo()
        self.gives(live.barred(('owe', 'lamp')), None)
        self.barred(live, ('owe', 'nosuch'), 'article')

    def test_article(self):
        for article in ('nosuch', 'light'):
            for event in (('owe', article), ('give', article), ('back', article), ('hold', 'ann', article, 1)):
                self.barred(LiveShop(SHOP), event, 'article')

    def test_part(self):
        for part in ('nosuch', 'light', 'box', 'trio'):
            self.barred(LiveShop(SHOP), ('goods', part, 1), 'part')

    def test_pack(self):
        for pack in ('nosuch', 'light', 'lamp'):
            self.barred(LiveShop(SHOP), ('build', pack, ((), ())), 'pack')
            self.barred(LiveShop(SHOP), ('apart', pack), 'pack')

    def test_twice(self):
        live = live_with(SHOP, ('hold', 'ann', 'box', 1), ('note', 'noon'))
        self.barred(live, ('hold', 'ann', 'lamp', 1), 'twice')
        self.barred(live, ('note', 'noon'), 'twice')

    def test_article_ahead_of_twice_and_twice_ahead_of_short(self):
        live = live_with(SHOP, ('hold', 'ann', 'box', 1))
        self.barred(live, ('hold', 'ann', 'light', 99), 'article')
        self.barred(live, ('hold', 'ann', 'box', 99), 'twice')

    def test_name(self):
        live = live_with(SHOP, ('hold', 'ann', 'box', 1), ('note', 'noon'))
        for name in ('bob', 'noon', 'box'):
            self.barred(live, ('free', name), 'name')
            self.barred(live, ('buy', name), 'name')
        live.buy('ann')
        self.barred(live, ('free', 'ann'), 'name')
        self.barred(live, ('buy', 'ann'), 'name')

    def test_owed(self):
        live = live_with(SHOP, ('owe', 'lamp'), ('hold', 'ann', 'box', 1))
        self.barred(live, ('give', 'plug'), 'owed')
        # What is on hold is not owed.
        self.barred(live, ('give', 'box'), 'owed')
        live.give('lamp')
        self.barred(live, ('give', 'lamp'), 'owed')

    def test_owed_ahead_of_there(self):
        shop = (PARTS, CHOICES, (('box', 0, False, PACKS[0][3]), PACKS[1]))
        live = LiveShop(shop)
        self.barred(live, ('give', 'box'), 'owed')
        live.owe('box')
        self.barred(live, ('give', 'box'), 'there')

    def test_there(self):
        live = live_with(SHOP, ('owe', 'box'), ('owe', 'box'), ('give', 'box'))
        self.barred(live, ('give', 'box'), 'there')
        live.go(BULB_BOX)
        self.gives(live.give('box'), 0)

    def test_given(self):
        live = live_with(SHOP, ('owe', 'lamp'), ('owe', 'box'), ('give', 'lamp'))
        self.barred(live, ('back', 'box'), 'given')
        self.barred(live, ('back', 'plug'), 'given')
        live.take_back('lamp')
        self.barred(live, ('back', 'lamp'), 'given')

    def test_deed(self):
        for takes in (((),), ((), (), ()), ((), ('bulb',)), ((), ('bulb', 'bulb'), ()), ((), ('lamp',), ()),
                      (('lamp',), ('bulb',), ()), ((), ('bulb',), ('trio',)), ((), ('nosuch',), ()), ((), (), (), ())):
            self.barred(LiveShop(SHOP), ('build', 'box', takes), 'deed')
        self.barred(LiveShop(SHOP), ('apart', 'box'), 'deed')
        live = live_with(SHOP, ('apart', 'trio'))
        self.barred(live, ('apart', 'trio'), 'deed')
        self.barred(live, BULB_BOX, 'deed')
        live = live_with(SHOP, BULB_BOX)
        self.barred(live, BULB_BOX, 'deed')

    def test_deed_ahead_of_short(self):
        # The lamps are there, but all on hold; and then not there any more.
        shop = ((('lamp', 4),), (), (('pair', 0, False, (('lamp', 2),)),))
        live = live_with(shop, ('hold', 'ann', 'lamp', 4))
        self.barred(live, ('build', 'pair', ((),)), 'short')
        self.barred(live, ('build', 'pair', (('lamp',),)), 'deed')
        live = live_with(shop, ('owe', 'lamp'), ('owe', 'lamp'), ('owe', 'lamp'), ('give', 'lamp'), ('give', 'lamp'),
                         ('give', 'lamp'))
        self.barred(live, ('build', 'pair', ((),)), 'deed')

    def test_short(self):
        live = live_with(SHOP, ('owe', 'box'), ('hold', 'ann', 'box', 2))
        self.barred(live, ('owe', 'box'), 'short')
        self.barred(live, ('hold', 'bob', 'box', 1), 'short')
        self.barred(live, ('hold', 'bob', 'bulb', 2), 'short')
        self.gives([live.barred(('owe', 'bulb')), live.barred(('hold', 'bob', 'bulb', 1))], [None, None])

    def test_build_that_is_short(self):
        # All bulbs are owed: a box takes the candle.
        live = live_with(SHOP, ('owe', 'bulb'), ('owe', 'bulb'))
        self.barred(live, BULB_BOX, 'short')
        self.gives(live.build('box', ((), ('candle',), ())), 2)
        # With all lamps asked no trio can be missed; but a trio that can be taken apart is as good as its lamp.
        live = live_with(SHOP, *[('owe', 'lamp')] * 5)
        self.barred(live, BULB_BOX, 'short')
        self.gives([live.build('trio', ((), ())), live.barred(BULB_BOX)], [2, 'short'])

    def test_first_reason_with_the_shop_full(self):
        live = live_with(SHOP, *[('goods', 'plug', 1)] * 39)
        self.barred(live, ('owe', 'nosuch'), 'article')
        live.note('noon')
        self.barred(live, ('owe', 'nosuch'), 'full')
        self.barred(live, ('note', 'noon'), 'full')


class Methods(Case):

    def test_each_is_its_event(self):
        calls = (('owe', ('box',), ('owe', 'box')), ('owe', ('lamp',), ('owe', 'lamp')),
                 ('give', ('box',), ('give', 'box')), ('take_back', ('box',), ('back', 'box')),
                 ('put_hold', ('ann', 'trio', 1), ('hold', 'ann', 'trio', 1)), ('free', ('ann',), ('free', 'ann')),
                 ('put_hold', ('bob', 'trio', 1), ('hold', 'bob', 'trio', 1)), ('buy', ('bob',), ('buy', 'bob')),
                 ('add_goods', ('lamp', 2), ('goods', 'lamp', 2)), ('build', BULB_BOX[1:], BULB_BOX),
                 ('build', ('trio', ((), ())), ('build', 'trio', ((), ()))),
                 ('take_apart', ('trio',), ('apart', 'trio')),
                 ('note', ('noon',), ('note', 'noon')), ('go', (('owe', 'plug'),), ('owe', 'plug')),
                 ('__call__', (('owe', 'plug'),), ('owe', 'plug')))
        one, model = LiveShop(SHOP), Model(SHOP)
        for method, given, event in calls:
            self.gives(getattr(one, method)(*given), model.apply(event))
            self.gives(one.log()[-1], event)

    def test_by_name(self):
        live = LiveShop(SHOP)
        self.gives([live.owe(article='box'), live.give(article='box'), live.take_back(article='box'),
                    live.put_hold(name='ann', article='box', number=1), live.free(name='ann'),
                    live.put_hold(number=2, name='bob', article='lamp'), live.buy(name='bob'),
                    live.add_goods(part='lamp', number=3), live.build(pack='trio', takes=((), ())),
                    live.take_apart(pack='trio'), live.note(name='noon'), live.go(event=('owe', 'plug')),
                    live(event=('owe', 'plug')), live.more_of(article='box'), live.barred(event=None),
                    live.shop_then(name='noon') == live.shop_now, live.asked_then(name='noon')],
                   [1, 0, 1, None, 1, None, 2, 7, 2, 1, None, 1, 2, 3, 'shape', True, (('lamp', 2),)])

    def test_any_values(self):
        live = LiveShop(SHOP)
        for wrong in [wrong for wrong in NOTHINGS if wrong != 'nosuch']:
            calls = ((live.owe, ('owe', wrong)), (live.give, ('give', wrong)), (live.take_back, ('back', wrong)),
                     (live.put_hold, ('hold', wrong, 'box', 1)), (live.put_hold, ('hold', 'ann', wrong, 1)),
                     (live.put_hold, ('hold', 'ann', 'box', wrong)), (live.free, ('free', wrong)),
                     (live.buy, ('buy', wrong)), (live.add_goods, ('goods', wrong, 1)),
                     (live.add_goods, ('goods', 'lamp', wrong)), (live.build, ('build', wrong, ((),))),
                     (live.build, ('build', 'trio', wrong)), (live.take_apart, ('apart', wrong)),
                     (live.note, ('note', wrong)))
            for method, event in calls:
                self.raises(InvalidEvent, {'event': event, 'reason': 'shape'}, method, *event[1:])
            for method in (live.go, live):
                self.raises(InvalidEvent, {'event': wrong, 'reason': 'shape'}, method, wrong)
        self.gives([len(live), live.tally()], [0, (16 * (len(NOTHINGS) - 1),) * 2])

    def test_more_of(self):
        for at, shop in enumerate(SHOPS[:12]):
            live, model, rng = LiveShop(shop), Model(shop), random.Random(at)
            for _ in range(8):
                event = some_event(model, rng)
                if model.reason(event) is None:
                    live.go(event)
                    model.apply(event)
                self.gives([live.more_of(name) for name in articles(shop)],
                           [dict(model.shown()).get(name, 0) for name in articles(shop)])

    def test_needed(self):
        for at, shop in enumerate(SHOPS):
            live, model, rng = LiveShop(shop), Model(shop), random.Random(at + 50)
            for _ in range(12):
                event = some_event(model, rng)
                if model.reason(event) is None:
                    live.go(event)
                    model.apply(event)
                self.gives(live.needed(), tuple(tuple(sorted(table.items()))
                                                for table in netting(model.shop_now(), model.asked())))

    def test_no_articles(self):
        live = LiveShop(SHOP)
        for wrong in NO_ARTICLES:
            self.refuses('article', live.more_of, wrong)
            self.refuses('article', live.__getitem__, wrong)
            self.gives(wrong in live, False)

    def test_items(self):
        live = live_with(SHOP, ('owe', 'box'), ('hold', 'ann', 'box', 1), ('hold', 'bob', 'box', 1), ('owe', 'lamp'))
        self.gives([live['box'], live['lamp'], live['trio'], live['bulb']],
                   [(1, 1, 2), (4, 1, 0), (1, 0, 0), (2, 0, 0)])

    def test_in_and_iteration(self):
        for shop in SHOPS:
            live = LiveShop(shop)
            self.gives(list(live), articles(shop))
            self.gives([name in live for name in articles(shop)], [True] * len(articles(shop)))
            self.gives([name in live for name, _ in shop[1]], [False] * len(shop[1]))

    def test_table(self):
        live = live_with(((('abcdefgh', 60), ('b', 12345)), (), ()), ('owe', 'b'), ('hold', 'ann', 'abcdefgh', 60))
        self.gives(live.table(), ['abcdefgh   60    0   60', 'b        12345    1    0'])
        live.do_all(*[('owe', 'b')] * 11)
        self.gives(live.table()[1], 'b        12345   12    0')
        table = live.table()
        table.append('mine')
        self.gives(len(live.table()), 2)

    def test_log_and_str(self):
        events = (('owe', 'box'), ('hold', 'ann', 'box', 2), BULB_BOX, ('note', 'noon'))
        live = LiveShop(SHOP)
        for at, event in enumerate(events):
            live.go(event)
            self.gives(live.log(), (('live', SHOP), *events[:at + 1]))
            self.gives(str(live), ' / '.join(event_line(one) for one in events[:at + 1]))
        self.gives(str(live), 'owe box / hold ann box 2 / build box -,bulb,- / note noon')


class Consequences(Case):
    """What [71] says behind each kind of event."""

    def test_behind_each_event(self):
        kinds = {}
        for at, shop in enumerate(SHOPS):
            live, model, rng = LiveShop(shop), Model(shop), random.Random(at + 300)
            apart = {pack[0]: pack[2] for pack in shop[2]}
            for _ in range(60):
                event = some_event(model, rng)
                if model.reason(event) is not None:
                    continue
                before = dict(live.shown())
                live.go(event)
                model.apply(event)
                self.assertTrue(holds(live.shop_now, live.asked_now))
                later = dict(live.shown())
                kind = event[0] + ' soft' * (event[0] == 'build' and apart[event[1]])
                kinds[kind] = kinds.get(kind, 0) + 1
                changes = [later.get(name, 0) - before.get(name, 0) for name in articles(shop)]
                if kind in ('give', 'buy', 'apart', 'build soft', 'note'):
                    self.assertEqual(later, before)
                elif kind in ('free', 'back', 'goods'):
                    self.assertGreaterEqual(min(changes), 0)
                else:
                    self.assertLessEqual(max(changes), 0)
                if kind == 'owe':
                    self.assertEqual(later.get(event[1], 0), before[event[1]] - 1)
        self.assertEqual(len(kinds), 11)
        self.assertGreater(min(kinds.values()), 10)

    def test_all_that_is_owed_can_be_given(self):
        for at, shop in enumerate(SHOPS[:20]):
            live, model, rng = LiveShop(shop), Model(shop), random.Random(at + 600)
            for _ in range(14):
                event = some_event(model, rng)
                if model.reason(event) is None:
                    live.go(event)
                    model.apply(event)
            self.assertTrue(self.gives_all(live, 200), live.log())

    def gives_all(self, live, most):
        """Goes on until nothing is owed: gives what it can, else does the first deed that brings it nearer."""
        class Endless(LiveShop):
            MOST = 1000
        endless = Endless(live.log()[0][1])
        endless.do_all(*live.log()[1:])
        while endless.owed_now and len(endless) < most:
            if endless.givable():
                endless.give(endless.givable()[0])
                continue
            # As the netting has it: apart outermost first, then build innermost first.
            order = self.outermost_first(endless.shop_now)
            turns = dict(endless.needed()[0])
            deeds = [('apart', pack) for pack in order if turns[pack] < 0]
            built = [self.building(endless, pack) for pack in reversed(order) if turns[pack] > 0]
            endless.go((deeds + [deed for deed in built if deed])[0])
        return not endless.owed_now

    def outermost_first(self, shop):
        sheets = {pack[0]: dict(pack[3]) for pack in shop[2]}

        def depth(pack):
            return 1 + max([depth(outer) for outer in sheets if pack in sheets[outer]], default=0)
        return sorted(sheets, key=depth)

    def building(self, live, pack):
        """Any building of the pack that is possible."""
        some = [deed for deed in deeds_of(live.shop_now) if deed[:2] == ('build', pack) and live.barred(deed) is None]
        return some[0] if some else None


class Examples(Case):

    def test_of_the_document(self):
        live = LiveShop(SHOP)
        self.gives([live.more_of('box'), live.owe('box'), live.put_hold('ann', 'box', 1), live.more_of('box'),
                    live.more_of('trio')], [3, 1, None, 1, 2])
        self.gives([live.owe('trio'), live.more_of('box'), live.needed()[0], live.givable(),
                    live.barred(('hold', 'bob', 'box', 2))],
                   [1, 1, (('box', 1), ('trio', 1)), ('box', 'trio'), 'short'])

    def test_of_the_notes(self):
        live = LiveShop(SHOP)
        self.gives([live.do_all(('owe', 'box'), ('owe', 'box'), ('hold', 'ann', 'trio', 1), ('note', 'noon')),
                    live.give('box'), live.barred(('give', 'box'))], [4, 0, 'there'])
        self.gives([live.build('box', ((), ('candle',), ())), live.build('trio', ((), ())), live.give('box'),
                    live.buy('ann'), live['trio'], live.given_now], [1, 1, 0, 1, (1, 1, 0), (('box', 2),)])
        self.gives([live.shop_now[0], live.table()[0], live.asked_then('noon')],
                   [(('bulb', 2), ('candle', 0), ('lamp', 2), ('plug', 3)), 'box         0    0    0',
                    (('box', 2), ('trio', 1))])
        event = ('build', 'box', ((), ('candle',), ()))
        self.raises(InvalidEvent, {'event': event, 'reason': 'deed'}, live.build, *event[1:])


if __name__ == '__main__':
    unittest.main()
