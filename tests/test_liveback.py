"""A live shop and its past: undo, several events at once, what is tried, tally, notes, equality: [68] to [71]."""

import random
import unittest

from kitsleft.errors import InvalidEvent, NothingToUndo, NotUsable
from kitsleft.live import LiveShop

from tests.cases import Case
from tests.livemodel import Model, some_event
from tests.oracle import articles
from tests.samples import NOTHINGS, PACKS, PARTS, SHOP, STIFF
from tests.test_live import BULB_BOX, SHOPS, live_with, seen

FOUR = (('owe', 'box'), ('hold', 'ann', 'trio', 1), BULB_BOX, ('note', 'noon'))
NO_BOOLS = (None, 0, 1, '', 'yes', (), (True,), [True])


def some_events(shop, many, seed):
    """So many events that are possible one behind the other."""
    model, rng, events = Model(shop), random.Random(seed), []
    while len(events) < many:
        event = some_event(model, rng)
        if model.reason(event, most=10 ** 6) is None:
            model.apply(event)
            events.append(event)
    return tuple(events)


class Undo(Case):

    def test_one_behind_the_other_to_the_beginning(self):
        words = set()
        for at, shop in enumerate(SHOPS):
            live, before = LiveShop(shop), []
            for event in some_events(shop, 30, at):
                before.append(seen(live))
                live.go(event)
            for past in reversed(before):
                last = live.log()[-1]
                words.add(last[0])
                self.gives(live.undo(), last)
                self.gives(seen(live), past)
            self.raises(NothingToUndo, {'steps': 0}, live.undo)
            self.assertTrue(live == LiveShop(shop))
        self.assertEqual(len(words), 10)

    def test_forth_and_back(self):
        for at, shop in enumerate(SHOPS[:10]):
            rng, live, model, past = random.Random(at), LiveShop(shop), Model(shop), []
            for _ in range(80):
                event = some_event(model, rng)
                if rng.random() < 0.4 and past:
                    model = past.pop()
                    self.gives(live.undo() is not None, True)
                elif model.reason(event) is None:
                    past.append(model.copy())
                    self.gives(live.go(event), model.apply(event))
                self.gives([live.shop_now, live.asked_now, live.log()],
                           [model.shop_now(), model.asked(), (('live', shop), *model.events)])

    def test_nothing_to_undo(self):
        live = LiveShop(SHOP)
        self.raises(NothingToUndo, {'steps': 0}, live.undo)
        with self.assertRaises(InvalidEvent):
            live.owe('nosuch')
        self.raises(NothingToUndo, {'steps': 0}, live.undo)
        live.owe('box')
        self.gives(live.undo(), ('owe', 'box'))
        self.raises(NothingToUndo, {'steps': 0}, live.undo)

    def test_what_was_done_can_be_done_again(self):
        live = live_with(SHOP, *FOUR)
        self.gives([live.undo(), live.note('noon')], [('note', 'noon'), None])
        for _ in range(4):
            live.undo()
        self.gives(live.do_all(*FOUR), 4)


class All(Case):

    def test_all(self):
        for at, shop in enumerate(SHOPS[:20]):
            events = some_events(shop, 12, at + 70)
            for keep in (False, True):
                live = live_with(shop, *events[:4])
                self.gives(live.do_all(*events[4:], keep=keep), 8)
                self.gives(seen(live), seen(live_with(shop, *events)))

    def test_none(self):
        live = live_with(SHOP, *FOUR)
        before = seen(live)
        self.gives([live.do_all(), live.do_all(keep=True), live.do_all(keep=False)], [0, 0, 0])
        self.gives(seen(live), before)

    def test_an_error_at_first_amid_and_at_last(self):
        for wrong, reason in ((('owe', 'nosuch'), 'article'), (('hold', 'ann', 'box', 1), 'twice'), (None, 'shape'),
                              (('owe', 'candle'), 'short'), (['owe', 'box'], 'shape')):
            start = (('hold', 'ann', 'candle', 1),)
            good = (('owe', 'lamp'), ('owe', 'bulb'), ('give', 'bulb'), ('note', 'noon'))
            for at in range(len(good) + 1):
                events = good[:at] + (wrong,) + good[at:]
                for keep, kept in ((False, ()), (True, good[:at])):
                    live = live_with(SHOP, *start)
                    self.raises(InvalidEvent, {'event': wrong, 'reason': reason}, live.do_all, *events, keep=keep)
                    self.gives(seen(live), seen(live_with(SHOP, *start, *kept)))
                live = live_with(SHOP, *start)
                # Without keep it is False.
                self.raises(InvalidEvent, {'event': wrong, 'reason': reason}, live.do_all, *events)
                self.gives(seen(live), seen(live_with(SHOP, *start)))

    def test_the_first_error(self):
        live = LiveShop(SHOP)
        self.raises(InvalidEvent, {'event': ('owe', 'aaa'), 'reason': 'article'}, live.do_all,
                    ('owe', 'box'), ('owe', 'aaa'), None, ('owe', 'bbb'))

    def test_the_very_event(self):
        live, event = LiveShop(SHOP), ['owe']
        for call in (live.do_all, live.tried):
            with self.assertRaises(InvalidEvent) as error:
                call(('owe', 'box'), event)
            self.assertIs(error.exception.event, event)

    def test_full(self):
        goods = ('goods', 'lamp', 1)
        for keep, kept in ((False, 30), (True, 40)):
            live = live_with(SHOP, *[goods] * 30)
            self.raises(InvalidEvent, {'event': goods, 'reason': 'full'}, live.do_all, *[goods] * 11, keep=keep)
            self.gives(len(live), kept)
        live = live_with(SHOP, *[goods] * 30)
        self.gives([live.do_all(*[goods] * 10), len(live)], [10, 40])
        self.raises(InvalidEvent, {'event': goods, 'reason': 'full'}, live.tried, goods)

    def test_keep_that_is_no_bool(self):
        live = live_with(SHOP, ('owe', 'box'))
        before = seen(live)
        for wrong in NO_BOOLS:
            # Ahead of all, also of an event that is not possible.
            for events in ((), (('owe', 'box'),), (None,)):
                self.refuses('keep', live.do_all, *events, keep=wrong)
        self.gives(seen(live), before)


class Tried(Case):

    def test_tried(self):
        for at, shop in enumerate(SHOPS[:20]):
            events = some_events(shop, 12, at + 90)
            live = live_with(shop, *events[:4])
            before, tally = seen(live), live.tally()
            for many in range(4, 13):
                other = live_with(shop, *events[:many])
                self.gives(live.tried(*events[4:many]), (other.shop_now, other.asked_now, other.given_now))
            self.gives([seen(live), live.tally()], [before, tally])

    def test_errors(self):
        live = live_with(SHOP, ('hold', 'ann', 'box', 1))
        before, tally = seen(live), live.tally()
        for events, wrong, reason in (((('owe', 'box'), ('give', 'lamp')), ('give', 'lamp'), 'owed'),
                                      ((('note', 'a'), ('note', 'a'), None), ('note', 'a'), 'twice'),
                                      ((None, ('owe', 'box')), None, 'shape'),
                                      ((('owe', 'box'),) * 3, ('owe', 'box'), 'short')):
            self.raises(InvalidEvent, {'event': wrong, 'reason': reason}, live.tried, *events)
        self.gives([seen(live), live.tally()], [before, tally])

    def test_full_counts_those_before(self):
        live = LiveShop(SHOP)
        goods = ('goods', 'lamp', 1)
        self.gives(live.tried(*[goods] * 40)[0][0][2], ('lamp', 44))
        self.raises(InvalidEvent, {'event': goods, 'reason': 'full'}, live.tried, *[goods] * 41)
        self.raises(InvalidEvent, {'event': None, 'reason': 'shape'}, live.tried, *[goods] * 40, None, goods)


class Tally(Case):

    def test_each_call_counts_once(self):
        live = LiveShop(SHOP)
        calls = ((live.owe, 'box'), (live.give, 'box'), (live.take_back, 'box'), (live.put_hold, 'ann', 'trio', 1),
                 (live.free, 'ann'), (live.put_hold, 'ann', 'trio', 1), (live.buy, 'ann'), (live.add_goods, 'lamp', 1),
                 (live.build, 'trio', ((), ())), (live.take_apart, 'trio'), (live.note, 'noon'),
                 (live.go, ('owe', 'lamp')),
                 (live, ('owe', 'lamp')), (live.undo,), (live.do_all, ('owe', 'lamp'), ('owe', 'plug')), (live.do_all,))
        for many, (call, *given) in enumerate(calls):
            self.gives(live.tally(), (many, many))
            call(*given)
        self.gives(live.tally(), (16, 16))

    def test_errors_count_too(self):
        live = LiveShop(SHOP)
        calls = ((live.owe, 'nosuch'), (live.give, 'box'), (live.take_back, 'box'), (live.put_hold, 'ann', 'trio', 0),
                 (live.free, 'ann'), (live.buy, 'ann'), (live.add_goods, 'box', 1), (live.build, 'trio', ()),
                 (live.take_apart, 'box'), (live.note, ''), (live.go, None), (live, None), (live.undo,),
                 (live.do_all, ('owe', 'lamp'), ('give', 'lamp'), None))
        for many, (call, *given) in enumerate(calls):
            self.gives(live.tally(), (many, many))
            with self.assertRaises((InvalidEvent, NothingToUndo)):
                call(*given)
        self.gives(live.tally(), (14, 14))
        with self.assertRaises(NotUsable):
            live.do_all(keep=1)
        with self.assertRaises(InvalidEvent):
            live.do_all(('owe', 'box'), None, keep=True)
        self.gives([live.tally(), len(live)], [(16, 16), 1])

    def test_what_is_asked_counts_nothing(self):
        live = live_with(SHOP, *FOUR)
        before = live.tally()
        seen(live)
        for call in (lambda: live.more_of('box'), lambda: live.barred(('owe', 'box')),
                     lambda: live.tried(('owe', 'lamp')),
                     lambda: live.shop_then('noon'), lambda: live.asked_then('noon'), lambda: live['box'],
                     lambda: 'box' in live, lambda: live == live, live.tally):
            call()
        for call in (lambda: live.more_of('nosuch'), lambda: live['nosuch'], lambda: live.shop_then('dawn')):
            with self.assertRaises(NotUsable):
                call()
        with self.assertRaises(InvalidEvent):
            live.tried(None)
        self.gives(live.tally(), before)


class Notes(Case):

    def test_then(self):
        for at, shop in enumerate(SHOPS[:15]):
            live, model = LiveShop(shop), Model(shop)
            for event in some_events(shop, 35, at + 200):
                live.go(event)
                model.apply(event)
                for name, (shop_then, asked_then) in model.notes.items():
                    self.gives([live.shop_then(name), live.asked_then(name)], [shop_then, asked_then])

    def test_of_several(self):
        live = live_with(SHOP, ('note', 'dawn'), ('owe', 'lamp'), ('note', 'noon'), ('give', 'lamp'), ('note', 'dusk'))
        self.gives([live.asked_then('dawn'), live.asked_then('noon'), live.asked_then('dusk')],
                   [(), (('lamp', 1),), ()])
        self.gives([live.shop_then(name)[0][2][1] for name in ('dawn', 'noon', 'dusk')], [4, 4, 3])

    def test_no_notes(self):
        live = live_with(SHOP, ('note', 'noon'), ('hold', 'ann', 'box', 1))
        for wrong in NOTHINGS + ('dawn', 'ann', 'box', ('noon',), ['noon'], 0, ('note', 'noon')):
            self.refuses('name', live.shop_then, wrong)
            self.refuses('name', live.asked_then, wrong)

    def test_a_note_that_was_undone(self):
        live = live_with(SHOP, ('note', 'noon'), ('owe', 'box'))
        live.undo()
        live.undo()
        self.refuses('name', live.shop_then, 'noon')
        live.owe('box')
        live.note('noon')
        self.gives(live.asked_then('noon'), (('box', 1),))

    def test_a_note_that_was_refused(self):
        live = live_with(SHOP, ('note', 'noon'), ('owe', 'box'))
        with self.assertRaises(InvalidEvent):
            live.note('noon')
        self.gives(live.asked_then('noon'), ())


class Equal(Case):

    def test_equal_logs(self):
        for at, shop in enumerate(SHOPS[:15]):
            events = some_events(shop, 8, at + 400)
            one = live_with(shop, *events)
            for many in range(9):
                other = live_with(shop, *events[:many])
                self.gives([one == other, other == one, one != other], [many == 8, many == 8, many < 8])

    def test_only_the_log_counts(self):
        one, other = live_with(SHOP, ('owe', 'box')), LiveShop(SHOP)
        self.assertFalse(one == other)
        for event in (('owe', 'lamp'), None):
            with self.assertRaises(InvalidEvent):
                other.do_all(event, None)
        other.owe('box')
        self.assertNotEqual(one.tally(), other.tally())
        self.assertTrue(one == other)

    def test_all_of_the_log_counts(self):
        # The same is there and owed, but not on the same way, or not from the same beginning.
        one = live_with(SHOP, ('owe', 'box'), ('owe', 'lamp'))
        self.assertFalse(one == live_with(SHOP, ('owe', 'lamp'), ('owe', 'box')))
        self.assertFalse(one == live_with(SHOP, ('owe', 'box'), ('owe', 'lamp'), ('note', 'noon')))
        early = (tuple((name, stock - (name == 'lamp')) for name, stock in PARTS), SHOP[1], PACKS)
        other = live_with(early, ('goods', 'lamp', 1))
        self.assertEqual(other.shop_now, SHOP)
        self.assertFalse(other == LiveShop(SHOP))
        self.assertFalse(LiveShop(SHOP) == LiveShop(STIFF))

    def test_other_values(self):
        live = live_with(SHOP, ('owe', 'box'))
        for other in NOTHINGS + (SHOP, live.log(), str(live), 1, (), live.shop_now):
            self.gives([live == other, live != other], [False, True])

    def test_derived_classes(self):
        class Stall(LiveShop):
            pass
        self.assertTrue(LiveShop(SHOP) == Stall(SHOP))

    def test_they_stay_apart(self):
        one, other = LiveShop(SHOP), LiveShop(SHOP)
        one.owe('box')
        self.gives([other.owed_now, len(other), other.tally()], [(), 0, (0, 0)])


class Refused(Case):

    def test_a_refused_event_changes_only_the_tally(self):
        for at, shop in enumerate(SHOPS[:15]):
            rng, live, model = random.Random(at), LiveShop(shop), Model(shop)
            for _ in range(40):
                event = some_event(model, rng)
                if model.reason(event) is None:
                    live.go(event)
                    model.apply(event)
                else:
                    before, (started, finished) = seen(live), live.tally()
                    with self.assertRaises(InvalidEvent):
                        live(event)
                    self.gives([seen(live), live.tally()], [before, (started + 1, finished + 1)])

    def test_results_belong_to_the_caller(self):
        live = LiveShop(SHOP)
        names = list(live)
        names.append('mine')
        self.gives([list(live), articles(SHOP)], [articles(SHOP)] * 2)


if __name__ == '__main__':
    unittest.main()
