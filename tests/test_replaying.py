"""Logs and live shops made of them again: [72]."""

import random
import unittest

from kitsleft.errors import InvalidEvent, NothingToUndo
from kitsleft.eventreadings import read_log
from kitsleft.eventtexts import log_lines
from kitsleft.live import LiveShop
from kitsleft.replaying import is_log, replayed

from tests.cases import Case
from tests.events import EVENTS, FORMS
from tests.livemodel import Model, some_event
from tests.samples import CHOICES, DEEPLY, NOTHINGS, PACKS, PARTS, SHOP, STIFF
from tests.test_live import BULB_BOX, SHOPS, live_with, seen
from tests.test_liveback import FOUR, some_events

START = ('live', SHOP)
NO_SHOPS = (None, (), (PARTS, CHOICES), list(SHOP), (PARTS, (), PACKS), SHOP + ((),), ((), (), ()), 'shop', LiveShop,
            ((('lamp', True),), (), ()), (PARTS, CHOICES, list(PACKS)), (PARTS, CHOICES, PACKS[::-1]))
NO_EVENTS = [wrong for wrong in NOTHINGS] + [
    (), ('owe',), ('owe', 'Lamp'), ('owe', 'lamp', 1), ['owe', 'lamp'], ('sell', 'lamp'), ('goods', 'lamp', 0),
    ('goods', 'lamp', True), ('hold', 'ann', 'box', 0), ('build', 'box', ()), ('build', 'box', [()]), ('live', SHOP),
    START, (('owe', 'lamp'),), 'owe lamp', 0, ('undo',)]
NO_LOGS = [wrong for wrong in NOTHINGS] + [
    (), 0, SHOP, 'live', ('live', SHOP), ['live', SHOP], [START], [START, ('owe', 'box')], (list(START),), (SHOP,),
    (('Live', SHOP),), (('live',),), (('live', SHOP, ()),), (('live', SHOP, SHOP),), ((SHOP, 'live'),), ((True, SHOP),),
    (None, ('owe', 'box')), (('owe', 'box'), START), (('owe', 'box'),), ('live', SHOP, ('owe', 'box')), (START, START),
    ((), START), (DEEPLY, START), ((['live'], SHOP),), (START, (('owe', 'box'),))]


class IsLog(Case):

    def test_logs(self):
        for at, shop in enumerate(SHOPS):
            log = (('live', shop), *some_events(shop, 45, at))
            for many in (1, 2, 20, 41, 46):
                self.gives(is_log(log[:many]), True)
        self.gives([is_log((START,)), is_log((START, *FOUR)), is_log(thing=(START,))], [True] * 3)

    def test_events_by_form_possible_or_not(self):
        for event in EVENTS:
            self.gives([is_log((START, event)), is_log((('live', STIFF), event, event))], [True, True])
        self.gives(is_log((START, *EVENTS, *EVENTS)), True)

    def test_no_beginning(self):
        for wrong in NO_LOGS:
            self.gives(is_log(wrong), False)
            self.refuses('log', replayed, wrong)

    def test_no_shop(self):
        for wrong in NO_SHOPS:
            for log in ((('live', wrong),), (('live', wrong), ('owe', 'lamp'))):
                self.gives(is_log(log), False)
                self.refuses('log', replayed, log)

    def test_no_events(self):
        for wrong in NO_EVENTS:
            for log in ((START, wrong), (START, *FOUR, wrong), (START, wrong, *FOUR)):
                self.gives(is_log(log), False)
                self.refuses('log', replayed, log)
        for word, (events, places) in FORMS.items():
            for at, others in enumerate(places):
                for other in others:
                    event = events[0][:at + 1] + (other,) + events[0][at + 2:]
                    self.gives(is_log((START, event)), False)

    def test_no_log_ahead_of_what_is_not_possible(self):
        self.refuses('log', replayed, (START, ('owe', 'nosuch'), None))
        self.refuses('log', replayed, (START, *[('owe', 'candle')] * 50, ('owe',)))


class Replayed(Case):

    def test_logs_of_live_shops(self):
        words = set()
        for at, shop in enumerate(SHOPS):
            live, model, rng = LiveShop(shop), Model(shop), random.Random(at)
            for step in range(90):
                event = some_event(model, rng)
                if rng.random() < 0.15 and len(live):
                    live.undo()
                    model = Model(shop)
                    for past in live.log()[1:]:
                        model.apply(past)
                elif live.barred(event) is None:
                    live.go(event)
                    model.apply(event)
                    words.add(event[0])
                if step % 15 == 14:
                    again = replayed(live.log())
                    self.gives(seen(again), seen(live))
                    self.assertTrue(again == live and again is not live)
                    self.gives(again.tally(), (0, 0))
                    for name in model.notes:
                        self.gives([again.shop_then(name), again.asked_then(name)], list(model.notes[name]))
        self.assertEqual(words, set(FORMS))

    def test_no_events(self):
        again = replayed((START,))
        self.gives([again.log(), again.tally(), len(again), str(again)], [(START,), (0, 0), 0, '-'])
        self.assertTrue(again == LiveShop(SHOP))
        self.assertIs(type(again), LiveShop)
        self.raises(NothingToUndo, {'steps': 0}, again.undo)

    def test_forty_events_and_more(self):
        for at, shop in enumerate(SHOPS):
            events = some_events(shop, 43, at + 5)
            live = live_with(shop, *events[:40])
            again = replayed(live.log())
            self.gives(seen(again), seen(live))
            self.gives([again.barred(event) for event in EVENTS], ['full'] * len(EVENTS))
            for many in (41, 42, 43):
                self.raises(InvalidEvent, {'event': events[40], 'reason': 'full'}, replayed,
                            (('live', shop), *events[:many]))

    def test_the_first_error(self):
        for events, at, reason in (((('owe', 'nosuch'),), 0, 'article'), ((('owe', 'light'),), 0, 'article'),
                                   ((*FOUR, ('note', 'noon'), ('owe', 'nosuch')), 4, 'twice'),
                                   ((*FOUR, ('free', 'bob'), ('note', 'noon')), 4, 'name'),
                                   ((('owe', 'candle'), ('owe', 'candle'), ('owe', 'x')), 1, 'short'),
                                   ((('give', 'lamp'), ('owe', 'lamp')), 0, 'owed'),
                                   ((('back', 'lamp'),), 0, 'given'), ((('goods', 'box', 1),), 0, 'part'),
                                   ((('apart', 'box'),), 0, 'deed'), ((('apart', 'lamp'),), 0, 'pack'),
                                   ((('apart', 'trio'), BULB_BOX), 1, 'deed')):
            self.raises(InvalidEvent, {'event': events[at], 'reason': reason}, replayed, (START, *events))
            self.gives(is_log((START, *events)), True)

    def test_the_very_event(self):
        event = ('owe', 'nosuch')
        with self.assertRaises(InvalidEvent) as error:
            replayed((START, event))
        self.assertIs(error.exception.event, event)

    def test_against_each_event_alone(self):
        for at, shop in enumerate(SHOPS[:20]):
            rng, model, events = random.Random(at), Model(shop), []
            while len(events) < 12:
                events.append(some_event(model, rng))
            log = (('live', shop), *events)
            live, wrong = LiveShop(shop), None
            for event in events:
                reason = live.barred(event)
                if reason is not None:
                    wrong = {'event': event, 'reason': reason}
                    break
                live.go(event)
            if wrong is None:
                self.gives(seen(replayed(log)), seen(live))
            else:
                self.raises(InvalidEvent, wrong, replayed, log)

    def test_it_goes_on_alone(self):
        live = live_with(SHOP, *FOUR)
        again, other = replayed(live.log()), replayed(log=live.log())
        before = seen(live)
        self.gives([again.owe('lamp'), again.undo(), again.undo(), again.tally()],
                   [1, ('owe', 'lamp'), ('note', 'noon'), (3, 3)])
        self.gives([seen(live), seen(other), other.tally(), live.tally()], [before, before, (0, 0), (4, 4)])
        while len(again):
            again.undo()
        self.assertTrue(again == LiveShop(SHOP))

    def test_the_same_log_again(self):
        log = live_with(SHOP, *FOUR).log()
        self.gives([seen(replayed(log)), log], [seen(replayed(log)), (START, *FOUR)])
        self.gives(replayed(log).log(), log)

    def test_a_live_shop_of_a_derived_class(self):
        class Left(LiveShop):
            pass
        left = Left(SHOP)
        left.do_all(*FOUR)
        self.assertIs(type(replayed(left.log())), LiveShop)
        self.assertTrue(replayed(left.log()) == left)

    def test_logs_that_were_read(self):
        live = live_with(SHOP, *FOUR)
        self.gives(seen(replayed(read_log(log_lines(live.log())))), seen(live))
        self.refuses('log', replayed, read_log(['live 1', 'part a 1', 'owe a'])[1:])
        # The lines of a log can write a shop that is none.
        none = read_log(['live 2', 'part b 1', 'part a 1', 'owe a'])
        self.gives(is_log(none), False)
        self.refuses('log', replayed, none)


if __name__ == '__main__':
    unittest.main()
