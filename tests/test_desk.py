"""A desk: [75], [76], with the lines of [73] and [74] and the texts of [20]."""

import random
import unittest

from kitsleft.desk import Desk
from kitsleft.errors import InvalidEvent, InvalidPaper, InvalidRow, KitError, NothingToUndo
from kitsleft.eventtexts import event_line, log_lines
from kitsleft.live import LiveShop
from kitsleft.shoptexts import row_text, shop_text

from tests.cases import Case
from tests.livemodel import Model, some_event
from tests.oracle import articles
from tests.samples import DEEP, PARTS, SHARED, SHOP, STIFF, some_shops

BEGIN = '\n'.join(log_lines((('live', SHOP),)))
WORDS = ('undo', 'events', 'log', 'owed', 'held', 'asked', 'given', 'shown', 'holds', 'turns', 'givable', 'table',
         'shop')
OTHERS = ('', ' ', '\n', '-', 'ok', 'nothing', 'Undo', 'undo ', ' undo', 'undo undo', 'undo\n', 'log log', 'owed box',
          'shown box', 'table ', 'shop\n', 'live', 'live 1', 'live 0', 'live 0\n', 'owe', 'owe Box', 'owe box ',
          ' owe box',
          'owe  box', 'owe box\n', 'owe box\nowe box', 'owe box owe box', 'hold ann box 0', 'hold ann box',
          'hold ann box 01',
          'goods lamp', 'build trio -,', 'build trio', 'there', 'there ', 'there Box', 'there box box', 'there\nbox',
          'there box\n', 'more', 'more 1', 'more  box', 'more box trio', 'then', 'then ', 'then -', 'then noon noon',
          'there overlongs', 'bars', 'bars ', 'bars nothing', 'bars owe', 'bars owe box ', 'bars  owe box',
          'bars bars owe box',
          'bars undo', 'bars owe box\n', 'bars hold ann box 0', 'bars there box', 'bars owe box\nowe box', 'sell box',
          'barred owe box', 'needed', 'tally', 'tried owe box', 'part a 0', '(none)', 'events 0', 'holds ann')
# Lines that begin no log, or go on.
NO_BEGINNINGS = (BEGIN + '\n', BEGIN + '\nowe box', BEGIN + '\n\n', ' ' + BEGIN, '\n' + BEGIN, BEGIN[:-1] + '0',
                 BEGIN.replace('live 7', 'live 6'), BEGIN.replace('live 7', 'live 8'),
                 BEGIN.replace('live 7', 'live 07'),
                 BEGIN.replace('live 7\n', ''), BEGIN.replace('live 7', 'live'), BEGIN.replace('\n', ' / '),
                 BEGIN + '\npart a 0', BEGIN.replace('live 7', 'live 7 '), 'live 0\n' + BEGIN)


def desk_with(*rows, shop=SHOP):
    desk = Desk()
    for row in ('\n'.join(log_lines((('live', shop),))), *rows):
        desk.say(row)
    return desk


def spaced(words):
    return ' '.join(words) or '-'


def answers(live):
    """What the rows of one word have to answer, but undo."""
    return {
        'events': str(len(live)), 'log': str(live), 'owed': row_text(live.owed_now), 'held': row_text(live.held_now),
        'asked': row_text(live.asked_now), 'given': row_text(live.given_now), 'shown': row_text(live.shown()),
        'holds': spaced([f'{name}:{article}:{number}' for name, article, number in live.holds_now]),
        'turns': spaced([f'{pack}:{turn}' for pack, turn in live.needed()[0]]), 'givable': spaced(live.givable()),
        'table': ' / '.join(live.table()), 'shop': ' / '.join(shop_text(live.shop_now).split('\n'))}


def all_answers(desk):
    return [desk.say(word) for word in WORDS if word != 'undo']


class Against(Case):

    def test_many_rows(self):
        for at, shop in enumerate(some_shops(12, 131, choices=2, packs=3, stock=4) + [SHOP, DEEP, SHARED, STIFF]):
            rng, live, model, desk = random.Random(at), LiveShop(shop), Model(shop), desk_with(shop=shop)
            for _ in range(50):
                event = some_event(model, rng)
                line, reason = event_line(event), model.reason(event)
                self.gives(desk.say('bars ' + line), '-' if reason is None else reason)
                if reason is None:
                    answer = live.go(event)
                    model.apply(event)
                    self.gives(desk.say(line), '-' if answer is None else str(answer))
                else:
                    self.raises(InvalidEvent, {'event': event, 'reason': reason}, desk.say, line)
                for word, answer in answers(live).items():
                    self.gives(desk.say(word), answer)
                for name in articles(shop):
                    self.gives(desk.say('there ' + name), str(model.there[name]))
                for name, (_, asked) in model.notes.items():
                    self.gives(desk.say('then ' + name), row_text(asked))
            for name in articles(shop):
                self.gives(desk.say('more ' + name), str(dict(model.shown()).get(name, 0)))
            for event in reversed(model.events):
                self.gives(desk.say('undo'), event_line(event))
            self.raises(NothingToUndo, {'steps': 0}, desk.say, 'undo')


class Rows(Case):

    def test_at_the_beginning(self):
        desk = Desk()
        self.gives(desk.say(row=BEGIN), 'ok')
        self.gives({word: desk.say(word) for word in WORDS if word != 'undo'} == {
            'events': '0', 'log': '-', 'owed': '-', 'held': '-', 'asked': '-', 'given': '-',
            'shown': 'box*3,bulb*2,candle*1,lamp*5,plug*7,trio*3', 'holds': '-', 'turns': 'box:0 trio:-1',
                                                                                  'givable': '-',
            'table': ' / '.join(['box         1    0    0', 'bulb        2    0    0', 'candle      1    0    0',
                                 'lamp        4    0    0', 'plug        5    0    0', 'trio        1    0    0']),
            'shop': 'part bulb 2 / part candle 1 / part lamp 4 / part plug 5 / choice light bulb,candle / '
                    'pack box 1 no lamp*1,light*1,trio*1 / pack trio 1 yes lamp*1,plug*2'}, True)

    def test_each_event(self):
        desk = desk_with()
        for row, answer in (('owe box', '1'), ('owe box', '2'), ('owe lamp', '1'), ('give box', '0'), ('back box', '1'),
                            ('hold ann trio 1', '-'), ('hold bob lamp 1', '-'), ('free bob', '1'), ('buy ann', '1'),
                            ('goods plug 10', '15'), ('build trio -,-', '2'), ('apart trio', '1'),
                            ('build box -,bulb,-', '2'), ('note noon', '-')):
            self.gives(desk.say(row), answer)
        self.gives([desk.say('events'), desk.say('undo'), desk.say('undo'), desk.say('undo'), desk.say('events')],
                   ['14', 'note noon', 'build box -,bulb,-', 'apart trio', '11'])

    def test_one_word(self):
        desk = desk_with('owe box', 'owe box', 'give box', 'hold bob lamp 1', 'hold ann trio 1')
        self.gives([desk.say(word) for word in ('owed', 'held', 'asked', 'given', 'shown', 'holds', 'turns', 'givable',
                                                'log')],
                   ['box*1', 'lamp*1,trio*1', 'box*1,lamp*1,trio*1', 'box*1', 'bulb*2,candle*1,lamp*1,plug*3,trio*1',
                    'ann:trio:1 bob:lamp:1', 'box:1 trio:1', '-',
                    'owe box / owe box / give box / hold bob lamp 1 / hold ann trio 1'])
        desk.say('buy bob')
        desk.say('buy ann')
        self.gives([desk.say('givable'), desk.say('holds'), desk.say('held')], ['lamp trio', '-', '-'])

    def test_names(self):
        desk = desk_with('owe lamp', 'give lamp', 'note noon', 'owe box', 'note dusk', 'hold ann plug 7')
        self.gives([desk.say('there lamp'), desk.say('there trio'), desk.say('more lamp'), desk.say('more plug'),
                    desk.say('then noon'), desk.say('then dusk')], ['3', '1', '4', '0', '-', 'box*1'])

    def test_bars(self):
        desk = desk_with('owe box', 'hold ann box 2')
        for line, answer in (('owe box', 'short'), ('owe lamp', '-'), ('owe nosuch', 'article'),
                             ('hold ann lamp 1', 'twice'),
                             ('give lamp', 'owed'), ('give box', '-'), ('back box', 'given'), ('free bob', 'name'),
                             ('goods box 1', 'part'), ('build lamp -', 'pack'), ('apart box', 'deed'),
                             ('note bars', '-')):
            self.gives(desk.say('bars ' + line), answer)
        self.gives(desk.say('events'), '2')

    def test_names_like_words(self):
        # An event may have a name that is a word of the desk.
        desk = desk_with('note undo', 'hold bars lamp 1', 'note log', 'owe lamp', 'note there')
        self.gives([desk.say('then undo'), desk.say('then there'), desk.say('free bars'), desk.say('undo')],
                   ['-', 'lamp*2', '1', 'free bars'])

    def test_a_shop_without_packs(self):
        desk = desk_with(shop=(PARTS, (), ()))
        self.gives([desk.say('turns'), desk.say('shown')], ['-', 'bulb*2,candle*1,lamp*4,plug*5'])
        desk = desk_with(shop=((('a', 0),), (), ()))
        self.gives([desk.say('shown'), desk.say('table'), desk.say('shop')],
                   ['-', 'a           0    0    0', 'part a 0'])


class Beginnings(Case):

    def test_no_live_shop_yet(self):
        desk = Desk()
        for row in WORDS + OTHERS + NO_BEGINNINGS + ('owe box', 'hold ann box 1', 'there box', 'more nosuch',
                                                     'then noon',
                                                     'bars owe box', 'note noon'):
            self.raises(InvalidRow, {'row': row}, desk.say, row)
        self.gives([desk.say(BEGIN), desk.say('events')], ['ok', '0'])

    def test_another_one(self):
        desk = desk_with('owe box', 'note noon')
        self.gives(desk.say('\n'.join(log_lines((('live', STIFF),)))), 'ok')
        self.gives([desk.say('events'), desk.say('owed'), desk.say('turns')], ['0', '-', 'pair:0'])
        self.refuses('name', desk.say, 'then noon')
        # Also the same one again.
        desk.say('owe pair')
        self.gives([desk.say('\n'.join(log_lines((('live', STIFF),)))), desk.say('owed')], ['ok', '-'])

    def test_lines_that_write_no_shop(self):
        wrong = (('live 2\npart b 0\npart a 0', 'part', 1), ('live 2\npart a 0\nchoice b a', 'choice', 0),
                 ('live 2\npart a 0\npack a 0 no a*1', 'name', (2, 0)),
                 ('live 2\npart a 0\npack b 0 no c*1', 'sheet', (0, 0)),
                 ('live 2\npart a 0\npack b 0 yes b*1', 'sheet', (0, 0)),
                 ('live 3\npart a 0\npack b 0 no c*1\npack c 0 no b*1', 'ring', 0))
        desk = Desk()
        for row, word, at in wrong:
            self.raises(InvalidPaper, {'word': word, 'at': at}, desk.say, row)
            self.raises(InvalidRow, {'row': 'events'}, desk.say, 'events')
        desk = desk_with('owe box', 'note noon')
        before = all_answers(desk)
        for row, word, at in wrong:
            self.raises(InvalidPaper, {'word': word, 'at': at}, desk.say, row)
            self.gives(all_answers(desk), before)
        self.gives(desk.say('then noon'), 'box*1')

    def test_one_line(self):
        self.gives(Desk().say('live 1\npart a 0'), 'ok')

    def test_desks_stay_apart(self):
        one, other = desk_with('owe box'), desk_with()
        self.gives([one.say('owed'), other.say('owed'), one.tally(), other.tally()], ['box*1', '-', (3, 3), (2, 2)])


class Refused(Case):

    def test_other_strings(self):
        desk = desk_with('owe box', 'note noon')
        before = all_answers(desk)
        for row in OTHERS + NO_BEGINNINGS:
            self.raises(InvalidRow, {'row': row}, desk.say, row)
        self.gives(all_answers(desk), before)

    def test_the_errors_of_the_live_shop(self):
        desk = desk_with('owe box', 'hold ann box 2')
        before = all_answers(desk)
        for row, event, reason in (('owe box', ('owe', 'box'), 'short'), ('give plug', ('give', 'plug'), 'owed'),
                                   ('owe nosuch', ('owe', 'nosuch'), 'article'), ('free bob', ('free', 'bob'), 'name'),
                                   ('build trio -', ('build', 'trio', ((),)), 'deed')):
            self.raises(InvalidEvent, {'event': event, 'reason': reason}, desk.say, row)
        for row, word in (('there nosuch', 'article'), ('there light', 'article'), ('more nosuch', 'article'),
                          ('more light', 'article'), ('then noon', 'name'), ('then ann', 'name')):
            self.refuses(word, desk.say, row)
        self.gives(all_answers(desk), before)
        self.raises(NothingToUndo, {'steps': 0}, desk_with().say, 'undo')

    def test_full(self):
        desk = desk_with(*['goods lamp 1'] * 40)
        self.gives([desk.say('bars owe lamp'), desk.say('events')], ['full', '40'])
        self.raises(InvalidEvent, {'event': ('owe', 'lamp'), 'reason': 'full'}, desk.say, 'owe lamp')


class Tally(Case):

    def test_each_call_counts_once(self):
        desk = Desk()
        rows = ('events', BEGIN, 'owe box', 'give plug', 'shown', 'there nosuch', 'nothing', 'bars owe box', 'undo',
                'undo',
                'live 2\npart b 0\npart a 0', '', BEGIN, 'then noon')
        for many, row in enumerate(rows):
            self.gives(desk.tally(), (many, many))
            try:
                desk.say(row)
            except KitError:
                pass
        self.gives([desk.tally(), desk.tally()], [(14, 14)] * 2)


class Examples(Case):

    def test_of_the_document(self):
        desk = Desk()
        self.gives([desk.say('\n'.join(log_lines((('live', SHOP),)))), desk.say('owe box'), desk.say('hold ann box 2'),
                    desk.say('shown'), desk.say('turns')],
                   ['ok', '1', '-', 'bulb*1,candle*1,lamp*1,plug*3,trio*1', 'box:2 trio:1'])
        self.gives([desk.say('bars owe box'), desk.say('buy ann'), desk.say('owed'), desk.say('undo'),
                    desk.say('holds')],
                   ['short', '2', 'box*3', 'buy ann', 'ann:box:2'])


if __name__ == '__main__':
    unittest.main()
