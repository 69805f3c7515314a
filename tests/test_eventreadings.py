"""Events and logs read: [74], with what [20] says of the lines of shops."""

import unittest

from kitsleft.errors import InvalidText
from kitsleft.eventreadings import read_event, read_log
from kitsleft.eventtexts import event_line, log_lines
from kitsleft.shopreadings import shop_read

from tests.cases import Case
from tests.events import EVENTS
from tests.samples import SHOP, some_shops

NO_NAMES = ('', 'Lamp', 'lamp1', '1', '-', 'overlongs', 'a,b', 'a+b', 'la_mp', 'lamp\n', '\nlamp', '\n')
NO_NUMBERS = ('', '0', '-', '-1', '+1', '00', '01', '007', '1.0', '1_0', 'one', '1' * 61, '0' * 60, '1\n', '\n1')
NO_TAKES = ('', ',', '-,', ',-', '-,,-', '+', 'a+', '+a', 'a++b', 'a+-', '-+a', '--', 'A', 'a+B', '1', 'a,1', 'a*1',
            'overlongs', '-,overlongs', '-\n', 'a\n', 'a\n,b')
NO_FIRST = ('', 'Owe', 'sell', 'owes', 'live', '-', '1', 'owe\n', '\nowe', 'part', 'owe,')

# A line of each form, and what cannot stand as each word of it.
LINES = {
    'owe box': (NO_FIRST, NO_NAMES),
    'give box': (NO_FIRST, NO_NAMES),
    'back box': (NO_FIRST, NO_NAMES),
    'hold ann box 2': (NO_FIRST, NO_NAMES, NO_NAMES, NO_NUMBERS),
    'free ann': (NO_FIRST, NO_NAMES),
    'buy ann': (NO_FIRST, NO_NAMES),
    'goods lamp 3': (NO_FIRST, NO_NAMES, NO_NUMBERS),
    'build box -,bulb+bulb,-': (NO_FIRST, NO_NAMES, NO_TAKES),
    'apart trio': (NO_FIRST, NO_NAMES),
    'note noon': (NO_FIRST, NO_NAMES),
}
LOG = ['live 3', 'part pa 1', 'choice ca pa,pa', 'pack ka 2 no ca*1,pa*2', *LINES]


def changed(words, at, worth):
    return ' '.join(words[:at] + [worth] + words[at + 1:])


def faults(line):
    """Pairs of a field and a text that is not possible from this field on, and begins like the line."""
    words = line.split(' ')
    for at, wrongs in enumerate(LINES[line]):
        for wrong in wrongs:
            yield at, changed(words, at, wrong)
            # What is wrong behind it does not count.
            yield at, changed(words, at, wrong) + ' more'
            yield at, ' '.join(words[:at] + [wrong])
        yield at, ' '.join(words[:at] + [''] + words[at:])
    for many in range(1, len(words)):
        yield many, ' '.join(words[:many])
    for more in ('', ' ', '1', 'box', '-', '\n', 'a b'):
        yield len(words), line + ' ' + more


class Events(Case):

    def test_each_form(self):
        self.gives([read_event(line) for line in LINES], [
            ('owe', 'box'), ('give', 'box'), ('back', 'box'), ('hold', 'ann', 'box', 2), ('free', 'ann'),
                                                          ('buy', 'ann'),
            ('goods', 'lamp', 3), ('build', 'box', ((), ('bulb', 'bulb'), ())), ('apart', 'trio'), ('note', 'noon')])

    def test_takes(self):
        for word, takes in (('-', ((),)), ('-,-', ((), ())), ('a', (('a',),)), ('b+a+b,a', (('b', 'a', 'b'), ('a',))),
                            ('-,a,-,b+c', ((), ('a',), (), ('b', 'c')))):
            self.gives(read_event('build box ' + word), ('build', 'box', takes))

    def test_numbers(self):
        for number in (1, 9, 10, 100, 61, 10 ** 59, 10 ** 60 - 1):
            self.gives(read_event(f'goods lamp {number}'), ('goods', 'lamp', number))
            self.gives(read_event(text=f'hold a b {number}'), ('hold', 'a', 'b', number))

    def test_each_word_that_cannot_stand(self):
        for line in LINES:
            for field, text in faults(line):
                self.raises(InvalidText, {'line': 0, 'field': field}, read_event, text)

    def test_other_texts(self):
        for text in ('', ' ', '\n', 'owe box\nowe box', '\n'.join(LOG[:4])):
            field = 1 if text.startswith('owe') else 0
            self.raises(InvalidText, {'line': 0, 'field': field}, read_event, text)

    def test_back(self):
        for event in EVENTS:
            self.gives(read_event(event_line(event)), event)
        for line in LINES:
            self.gives(event_line(read_event(line)), line)


class Logs(Case):

    def bad(self, line, field, lines):
        given = list(lines)
        self.raises(InvalidText, {'line': line, 'field': field}, read_log, given)
        self.assertEqual(given, lines)

    def test_what_the_lines_write(self):
        # Its shop is none: an option comes twice.
        self.gives(read_log(LOG), (
            ('live', ((('pa', 1),), (('ca', ('pa', 'pa')),), (('ka', 2, False, (('ca', 1), ('pa', 2))),))),
            *[read_event(line) for line in LINES]))
        self.gives(read_log(lines=['live 1', 'part a 0']), (('live', ((('a', 0),), (), ())),))

    def test_the_first_line(self):
        for first in ('', 'Live 3', 'lives 3', '3', 'part pa 1', ' live 3', 'owe box'):
            self.bad(0, 0, [first] + LOG[1:])
        for first in ('live ', 'live', 'live -1', 'live 03', 'live +3', 'live x', 'live ' + '1' * 61, 'live  3',
                      'live 00'):
            self.bad(0, 1, [first] + LOG[1:])
        for first in ('live 3 ', 'live 3 3', 'live 0 x', 'live 3  x'):
            self.bad(0, 2, [first] + LOG[1:])

    def test_the_first_line_comes_first(self):
        self.bad(0, 1, ['live x', 'nothing', ''])
        self.bad(0, 0, ['', ''])

    def test_no_lines(self):
        self.bad(0, 0, [])
        self.bad(0, 0, [''])

    def test_no_lines_of_the_shop(self):
        self.bad(1, 0, ['live 0'])
        self.bad(1, 0, ['live 0', 'owe box'])
        self.bad(1, 0, ['live 0', 'part a 0'])
        self.bad(1, 0, ['live 1'])
        self.bad(1, 0, ['live 7'])

    def test_fewer_lines_than_told(self):
        for many in (4, 5, 10 ** 60 - 1):
            self.bad(4, 0, [f'live {many}'] + LOG[1:4])
        self.bad(2, 0, ['live 2', 'part a 0'])
        # But what is there comes first, and an event is no line of a shop.
        self.bad(2, 2, ['live 9', 'part a 0', 'part b x'])
        self.bad(4, 0, ['live 4'] + LOG[1:])
        self.bad(1, 0, ['live 2', 'choice a b'])

    def test_more_lines_than_told(self):
        self.bad(3, 0, ['live 2'] + LOG[1:])
        self.bad(2, 0, ['live 1'] + LOG[1:])
        self.bad(4, 0, LOG[:4] + ['part q 1'])

    def test_the_lines_of_the_shop(self):
        for at, line in enumerate(LOG[1:4]):
            words = line.split(' ')
            for field in range(len(words)):
                lines = list(LOG)
                lines[at + 1] = changed(words, field, 'X*')
                self.bad(at + 1, field, lines)
                with self.assertRaises(InvalidText) as error:
                    shop_read('\n'.join(lines[1:4]))
                self.assertEqual([error.exception.line, error.exception.field], [at, field])
            self.bad(at + 1, len(words), LOG[:at + 1] + [line + ' more'] + LOG[at + 2:])
            self.bad(at + 1, 0, LOG[:at + 1] + [''] + LOG[at + 2:])
        self.bad(2, 3, LOG[:2] + ['choice ca pa,pb ', 'nothing', 'nothing'])

    def test_the_events(self):
        for at, line in enumerate(LOG[4:]):
            for field, text in faults(line):
                if '\n' not in text:
                    self.bad(at + 4, field, LOG[:at + 4] + [text] + LOG[at + 5:])
                    self.bad(at + 4, field, LOG[:at + 4] + [text, 'nothing'])
        self.bad(len(LOG), 0, LOG + [''])
        self.bad(4, 0, LOG[:4] + ['', ''])

    def test_back(self):
        for shop in some_shops(50, 81, choices=2, packs=4):
            log = (('live', shop), *EVENTS)
            self.gives(read_log(log_lines(log)), log)
            self.gives(read_log(log_lines(log[:1])), log[:1])
        for many in range(4, len(LOG) + 1):
            self.gives(log_lines(read_log(LOG[:many])), LOG[:many])
        self.gives(read_log(log_lines((('live', SHOP),))), (('live', SHOP),))


class Examples(Case):

    def test_of_the_document(self):
        self.gives([event_line(('build', 'box', ((), ('bulb', 'bulb'), ()))), read_event('hold ann box 2'),
                    read_event('build trio -,-')],
                   ['build box -,bulb+bulb,-', ('hold', 'ann', 'box', 2), ('build', 'trio', ((), ()))])
        self.raises(InvalidText, {'line': 0, 'field': 2}, read_event, 'goods lamp 0')


if __name__ == '__main__':
    unittest.main()
