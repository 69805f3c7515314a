"""Lines of events and logs: [73]."""

import unittest

from kitsleft.eventreadings import read_log
from kitsleft.eventtexts import event_line, log_lines
from kitsleft.shoptexts import shop_text

from tests.cases import Case
from tests.events import EVENTS
from tests.samples import DEEP, SHARED, SHOP, STIFF

WRITTEN = (
    (('owe', 'box'), 'owe box'),
    (('give', 'box'), 'give box'),
    (('back', 'lamp'), 'back lamp'),
    (('hold', 'ann', 'box', 2), 'hold ann box 2'),
    (('hold', 'ann', 'box', 10 ** 59), 'hold ann box 1' + '0' * 59),
    (('free', 'ann'), 'free ann'),
    (('buy', 'ann'), 'buy ann'),
    (('goods', 'lamp', 60), 'goods lamp 60'),
    (('build', 'box', ((), ('bulb', 'bulb'), ())), 'build box -,bulb+bulb,-'),
    (('build', 'trio', ((), ())), 'build trio -,-'),
    (('build', 'one', ((),)), 'build one -'),
    (('build', 'one', (('lamp',),)), 'build one lamp'),
    (('build', 'one', (('c', 'a', 'b'), ('a',))), 'build one c+a+b,a'),
    (('apart', 'trio'), 'apart trio'),
    (('note', 'noon'), 'note noon'),
)


class Lines(Case):

    def test_each_form(self):
        self.assertEqual({event[0] for event, _ in WRITTEN}, {event[0] for event in EVENTS})
        for event, line in WRITTEN:
            self.gives(event_line(event), line)
            self.gives(event_line(event=event), line)

    def test_each_event_has_its_own(self):
        self.assertEqual(len({event_line(event) for event in EVENTS}), len(EVENTS))


class Logs(Case):

    def test_the_shop_alone(self):
        self.gives(log_lines((('live', SHOP),)), [
            'live 7', 'part bulb 2', 'part candle 1', 'part lamp 4', 'part plug 5', 'choice light bulb,candle',
            'pack box 1 no lamp*1,light*1,trio*1', 'pack trio 1 yes lamp*1,plug*2'])
        self.gives(log_lines((('live', ((('a', 0),), (), ())),)), ['live 1', 'part a 0'])

    def test_with_events(self):
        for shop in (SHOP, STIFF, DEEP, SHARED):
            lines = shop_text(shop).split('\n')
            self.gives(log_lines(log=(('live', shop), *[event for event, _ in WRITTEN])),
                       [f'live {len(lines)}'] + lines + [line for _, line in WRITTEN])

    def test_what_read_log_returns(self):
        # Perhaps no shop.
        lines = ['live 3', 'part b 1', 'part a 0', 'pack p 0 yes p*1', 'owe nosuch', 'owe p']
        self.gives(log_lines(read_log(lines)), lines)
        self.gives(log_lines((('live', ((('b', 1), ('a', 0)), (), (('p', 0, True, (('p', 1),)),))),
                              ('owe', 'nosuch'), ('owe', 'p'))), lines)


class Examples(Case):

    def test_of_the_document(self):
        self.gives(event_line(('build', 'box', ((), ('bulb', 'bulb'), ()))), 'build box -,bulb+bulb,-')


if __name__ == '__main__':
    unittest.main()
