"""Shops and rows read: [20], with [2] and [10]."""

import re
import unittest

from kitsleft.errors import InvalidText
from kitsleft.kinds import is_shop
from kitsleft.shopreadings import row_read, shop_read
from kitsleft.shoptexts import row_text, shop_text

from tests.cases import Case
from tests.samples import DEEP, DEEPLY, SHARED, SHOP, STIFF, some_rows, some_shops

SIXTY = '9' * 60
NO_NAMES = ('', 'Lamp', 'lamp1', '1', '-', 'overlongs', 'a,b', 'a*1', 'la_mp', '\n', 'lamp\n', '\nlamp')
NO_NUMBERS = ('', '-', '-1', '+1', '00', '01', '007', '1.0', '1_0', 'one', '1,', '0x1', '1' * 61, '0' * 60, 'a', '*')
NO_NAME_LISTS = ('', ',', 'pa,', ',pa', 'pa,,pb', 'pa,Pb', '-', 'pa,-', 'pa*1', 'pa,overlongs', 'pa;pb', 'pa+pb', '7')
NO_PAIRS = ('', '-', 'pa', 'pa*', '*1', 'pa*0', 'pa*01', 'pa*-1', 'pa*1*1', 'pa**1', 'Pa*1', 'pa*1,', ',pa*1',
            'pa*1,,pb*1', 'pa*1,pb', 'pa*1,-', '-,pa*1', 'pa:1', '1*pa', 'pa*' + '1' * 61, 'overlongs*1', 'pa,1',
            'pa*1;pb*1', 'pa*x')
NO_BOOLS = ('', 'Yes', 'NO', 'true', 'True', '0', '1', 'y', 'n', '-', 'yes,no', 'yesno')
NO_FIRST = ('', 'Part', 'parts', 'par', 'packs', 'choices', '-', '1', 'row')
# What no word of each kind is, for each line by its first word.
WRONG = {'part': (NO_NAMES, NO_NUMBERS), 'choice': (NO_NAMES, NO_NAME_LISTS),
         'pack': (NO_NAMES, NO_NUMBERS, NO_BOOLS, NO_PAIRS)}
TEXT = '\n'.join(['part pa 1', 'part pb 0', 'choice ca pa,pb', 'choice cb pb,pa,pa', 'pack ka 2 no ca*1,pa*2',
                  'pack kb 60 yes pa*1'])
LINES = TEXT.split('\n')

NO_TEXTS = (None, True, 0, 1, (), ('part a 0',), ['part a 0'], [], DEEPLY)


def with_line(at, line):
    return '\n'.join(LINES[:at] + [line] + LINES[at + 1:])


def with_word(at, field, word):
    words = LINES[at].split(' ')
    return with_line(at, ' '.join(words[:field] + [word] + words[field + 1:]))


class Reading(Case):

    def bad(self, line, field, text):
        self.raises(InvalidText, {'line': line, 'field': field}, shop_read, text)

    def test_what_the_text_writes(self):
        self.gives(shop_read(TEXT), (
            (('pa', 1), ('pb', 0)), (('ca', ('pa', 'pb')), ('cb', ('pb', 'pa', 'pa'))),
            (('ka', 2, False, (('ca', 1), ('pa', 2))), ('kb', 60, True, (('pa', 1),)))))
        self.gives(shop_read('part a 0'), ((('a', 0),), (), ()))
        self.gives(shop_read('part a 0\nchoice b a'), ((('a', 0),), (('b', ('a',)),), ()))
        self.gives(shop_read('part a 0\npack b 0 no a*1'), ((('a', 0),), (), (('b', 0, False, (('a', 1),)),)))

    def test_what_is_no_shop(self):
        # Names that do not ascend, come twice, or are of nothing; packs in rings; choices taken apart.
        self.gives(shop_read('part b 1\npart a 2\npart b 3\nchoice a a\nchoice a z,b,z\n'
                             'pack p 0 yes p*1,a*2,p*3\npack a 1 no q*1'),
                   ((('b', 1), ('a', 2), ('b', 3)), (('a', ('a',)), ('a', ('z', 'b', 'z'))),
                    (('p', 0, True, (('p', 1), ('a', 2), ('p', 3))), ('a', 1, False, (('q', 1),)))))
        # Names may be like words of lines.
        self.gives(shop_read('part part 1\nchoice choice part,pack\npack pack 1 no yes*1,no*2'),
                   ((('part', 1),), (('choice', ('part', 'pack')),), (('pack', 1, False, (('yes', 1), ('no', 2))),)))

    def test_each_word_that_cannot_stand(self):
        for at, line in enumerate(LINES):
            for word in NO_FIRST:
                self.bad(at, 0, with_word(at, 0, word))
            for place, wrongs in enumerate(WRONG[line.split(' ')[0]]):
                for word in wrongs:
                    if '\n' not in word:
                        self.bad(at, place + 1, with_word(at, place + 1, word))

    def test_the_first_word_that_cannot_stand(self):
        self.bad(0, 1, 'part A -1')
        self.bad(0, 1, 'part A')
        self.bad(0, 1, 'part A 1 2')
        self.bad(0, 0, 'Part A')
        self.bad(1, 2, 'part a 1\npack b -1 maybe a*0')
        self.bad(1, 3, 'part a 1\npack b 1 maybe')
        self.bad(1, 2, 'part a 1\npack b x no a*1 1')

    def test_a_word_missing(self):
        for at, line in enumerate(LINES):
            words = line.split(' ')
            for many in range(1, len(words)):
                self.bad(at, many, with_line(at, ' '.join(words[:many])))

    def test_words_too_many(self):
        for at, line in enumerate(LINES):
            many = len(line.split(' '))
            for more in ('', '1', 'pa', 'pa 1', ' ', '-'):
                self.bad(at, many, with_line(at, line + ' ' + more))

    def test_empty_words(self):
        for at, line in enumerate(LINES):
            words = line.split(' ')
            for field in range(len(words)):
                self.bad(at, field, with_line(at, ' '.join(words[:field] + [''] + words[field:])))

    def test_the_empty_string_and_empty_lines(self):
        self.bad(0, 0, '')
        self.bad(0, 0, ' ')
        self.bad(0, 0, '\n')
        self.bad(0, 0, '\n' + TEXT)
        self.bad(len(LINES), 0, TEXT + '\n')
        for at in range(len(LINES)):
            self.bad(at, 0, '\n'.join(LINES[:at] + [''] + LINES[at:]))

    def test_newlines_begin_lines(self):
        # A newline amid a line makes two of it, both perhaps not possible.
        self.bad(0, 1, 'part\npa 1')
        self.bad(0, 2, 'part pa\n1')
        self.bad(1, 0, 'part pa 1\n1')
        self.bad(2, 3, 'part pa 1\npart pb 1\npack ka 1\nno pa*1')

    def test_the_first_line(self):
        for line in LINES[2:]:
            self.bad(0, 0, line)
            self.bad(0, 0, line + '\n' + TEXT)

    def test_the_order_of_the_lines(self):
        firsts = ('part', 'choice', 'pack')
        some = dict(zip(firsts, ('part pa 1', 'choice ca pa', 'pack ka 0 no pa*1')))
        for early in firsts:
            for late in firsts:
                text = '\n'.join(['part q 1', some[early], some[late]])
                if firsts.index(early) <= firsts.index(late):
                    self.assertEqual(shop_text(shop_read(text)), text)
                else:
                    self.bad(2, 0, text)
        # Not only behind one another.
        self.bad(3, 0, '\n'.join([some['part'], some['choice'], some['pack'], some['part']]))
        self.bad(4, 0, '\n'.join([some['part'], some['choice'], some['pack'], some['pack'], some['choice']]))

    def test_the_first_line_that_is_not_possible(self):
        self.bad(1, 2, 'part a 1\npart b 01\npart C')
        self.bad(0, 2, 'part a\nnothing')

    def test_numbers(self):
        for number in (0, 1, 9, 10, 100, 10 ** 59, 10 ** 60 - 1):
            self.gives(shop_read(f'part a {number}\npack b {number} yes a*{number + (number == 0)}'),
                       ((('a', number),), (), (('b', number, True, (('a', number + (number == 0)),)),)))
        for line, field, text in ((0, 2, 'part a N'), (1, 2, 'part a 1\npack b N no a*1'),
                                  (1, 4, 'part a 1\npack b 1 no a*N')):
            self.assertEqual(shop_text(shop_read(text.replace('N', SIXTY))), text.replace('N', SIXTY))
            self.bad(line, field, text.replace('N', '1' * 61))
            self.bad(line, field, text.replace('N', '0' + SIXTY[1:]))

    def test_no_texts(self):
        for wrong in NO_TEXTS:
            self.refuses('text', shop_read, wrong)

    def test_by_name(self):
        self.gives(shop_read(text='part a 0'), ((('a', 0),), (), ()))


class Rows(Case):

    def test_what_the_text_writes(self):
        self.gives([row_read('-'), row_read('box*2'), row_read('box*2,trio*1'), row_read('a*' + SIXTY)],
                   [(), (('box', 2),), (('box', 2), ('trio', 1)), (('a', int(SIXTY)),)])
        self.gives(row_read(text='a*1', line=3, field=2), (('a', 1),))

    def test_what_is_no_row(self):
        self.gives(row_read('trio*1,box*2,trio*61,nosuch*7'), (('trio', 1), ('box', 2), ('trio', 61), ('nosuch', 7)))

    def test_what_cannot_stand(self):
        for text in [word for word in NO_PAIRS if word != '-'] + ['--', '-,-', 'box*2\n', '\nbox*2', 'box*\n2', '-\n',
                                                                  '\n', 'box*2,\ntrio*1', 'box *2', ' box*2', ' ']:
            self.raises(InvalidText, {'line': 0, 'field': 0}, row_read, text)
            self.raises(InvalidText, {'line': 7, 'field': 3}, row_read, text, line=7, field=3)

    def test_words_too_many(self):
        for text in ('box*2 ', 'box*2 trio*1', '- -', '-  ', 'box*2 x y', 'box*2 \n'):
            self.raises(InvalidText, {'line': 0, 'field': 1}, row_read, text)
            self.raises(InvalidText, {'line': 0, 'field': 5}, row_read, text, field=4)
            self.raises(InvalidText, {'line': 9, 'field': 1}, row_read, text, line=9)

    def test_refusals(self):
        for wrong in NO_TEXTS:
            self.refuses('text', row_read, wrong)
            self.refuses('text', row_read, wrong, line=-1, field=None)
        for wrong in (None, True, False, -1, '0', (0,), [0], DEEPLY):
            # Also if the text itself could not be read.
            for text in ('-', 'box'):
                self.refuses('line', row_read, text, line=wrong)
                self.refuses('line', row_read, text, line=wrong, field=wrong)
                self.refuses('field', row_read, text, field=wrong)

    def test_line_and_field_by_name_only(self):
        with self.assertRaises(TypeError):
            row_read('-', 0)


class Back(Case):

    def test_shops(self):
        for shop in [SHOP, STIFF, DEEP, SHARED] + some_shops(200, 71, choices=3, packs=4):
            self.gives(shop_read(shop_text(shop)), shop)

    def test_rows(self):
        for shop in some_shops(20, 72):
            for sales in some_rows(shop, 20, 73):
                self.gives(row_read(row_text(sales)), sales)

    def test_texts(self):
        # Many texts: each is read exactly if a plain pattern fits it, and is then written again as it is.
        name, number, some = '[a-z]{1,8}', '(0|[1-9][0-9]{0,59})', '[a-z]{1,8}[*][1-9][0-9]{0,59}'
        part = f'part {name} {number}'
        choice = f'choice {name} {name}(,{name})*'
        pack = f'pack {name} {number} (yes|no) {some}(,{some})*'
        pattern = re.compile(f'{part}(\n{part})*(\n{choice})*(\n{pack})*')
        read = 0
        for text in mixed_texts():
            try:
                shop = shop_read(text)
            except InvalidText as error:
                self.assertIsNone(pattern.fullmatch(text), text)
                self.assertLess(error.line, len(text.split('\n')))
                self.assertLessEqual(error.field, len(text.split('\n')[error.line].split(' ')))
                continue
            read += 1
            self.assertIsNotNone(pattern.fullmatch(text), text)
            self.assertEqual(shop_text(shop), text)
            if is_shop(shop):
                self.gives(shop_read(shop_text(shop)), shop)
        self.assertGreater(read, 50)


def mixed_texts():
    """The text above with each character left out, doubled, or changed into others, and with lines in other places."""
    for at in range(len(TEXT)):
        for worth in ('', TEXT[at] * 2, ' ', '\n', '-', ',', '*', 'x', '0', 'X'):
            yield TEXT[:at] + worth + TEXT[at + 1:]
    for first in range(len(LINES)):
        for last in range(len(LINES)):
            yield '\n'.join(LINES[first:] + LINES[:last])
            yield '\n'.join([LINES[0], LINES[first], LINES[last]])


class Examples(Case):

    def test_of_the_document(self):
        self.gives([shop_text(SHOP).split('\n')[4:6], shop_read(shop_text(SHOP)) == SHOP,
                    row_text((('box', 2), ('trio', 1))), row_read('-')],
                   [['choice light bulb,candle', 'pack box 1 no lamp*1,light*1,trio*1'], True, 'box*2,trio*1', ()])
        self.raises(InvalidText, {'line': 1, 'field': 4}, shop_read, 'part a 0\npack b 1 no a*0')


if __name__ == '__main__':
    unittest.main()
