"""Shops as objects: [21] and [22], with [12], [15] to [18] and [20]."""

import unittest

from kitsleft import errors
from kitsleft.errors import InvalidPaper, InvalidText
from kitsleft.handless import Hand
from kitsleft.kinds import is_shop
from kitsleft.live import LiveShop
from kitsleft.planclasses import Plan
from kitsleft.shopchanges import renamed, with_pack, with_part, without
from kitsleft.shopclasses import Loose, Sealed, Shop
from kitsleft.shopparts import articles_of, there_of
from kitsleft.shoptexts import shop_text

from tests.cases import Case
from tests.samples import CHOICES, DEEP, DEEPLY, NOTHINGS, PACKS, PARTS, SHARED, SHOP, STIFF, some_shops

SHOPS = some_shops(40, 251, choices=3, packs=4) + [SHOP, STIFF, DEEP, SHARED]
ONE = Shop(*SHOP)
# Objects of the package stand for no name, number, tuple or text.
OBJECTS = (ONE, Loose(PARTS), Sealed(ONE), Shop, Plan(SHOP, ()), Hand(STIFF), LiveShop(SHOP),
           errors.NotUsable('name', -1))
NO_NAMES = NOTHINGS + OBJECTS + (0, 'pair', ('box', 1))
NO_ARTICLES = NO_NAMES + ('light',)
NO_NUMBERS = (None, True, False, -1, '', '1', (), (1,), [1], DEEPLY) + OBJECTS


class Left(Shop):
    """A shop of a class of its own, which is made in another way."""

    def __init__(self):
        super().__init__(*SHOP)


def all_of_the_document():
    """The shop of the document, and shops with the same form or other forms of each class."""
    return [ONE, Left(), Sealed(ONE), Loose(PARTS), Shop(PARTS, CHOICES, ())]


class Made(Case):

    def is_shop_of(self, one, form):
        """It is of the class Shop itself, with this form."""
        self.assertIs(type(one), Shop)
        self.gives([one.form, one.stocks, one.eithers, one.packings], [form, form[0], form[1], form[2]])
        self.gives([len(one), list(one), str(one)], [len(articles_of(form)), list(articles_of(form)), shop_text(form)])

    def test_properties(self):
        for shop in SHOPS:
            self.is_shop_of(Shop(*shop), shop)
        self.is_shop_of(Shop(parts=PARTS, choices=CHOICES, packs=PACKS), SHOP)
        for name in ('form', 'stocks', 'eithers', 'packings'):
            with self.assertRaises(AttributeError):
                setattr(ONE, name, ())

    def test_the_errors_of_lets_shop(self):
        for parts, choices, packs, word, at in (
                (None, (), (), 'shape', -1), ((), (), (), 'shape', -1), (list(PARTS), (), (), 'shape', -1),
                (PARTS, None, (), 'shape', -1), (PARTS, (), [], 'shape', -1), (ONE, (), (), 'shape', -1),
                (PARTS, ONE, (), 'shape', -1), (PARTS, (), ONE, 'shape', -1), (SHOP, (), (), 'part', 0),
                (PARTS[::-1], (), (), 'part', 1), ((('a', True),), (), (), 'part', 0), ((ONE,), (), (), 'part', 0),
                (((ONE, 1),), (), (), 'part', 0), ((('a', ONE),), (), (), 'part', 0),
                (PARTS, (('light', ('bulb',)),), (), 'choice', 0), (PARTS, (ONE,), (), 'choice', 0),
                (PARTS, (('light', ONE),), (), 'choice', 0), (PARTS, (('light', ('bulb', ONE)),), (), 'choice', 0),
                (PARTS, CHOICES, PACKS[::-1], 'pack', 1), (PARTS, (), (ONE,), 'pack', 0),
                (PARTS, (), (('k', ONE, True, (('lamp', 1),)),), 'pack', 0),
                (PARTS, (), (('k', 0, ONE, (('lamp', 1),)),), 'pack', 0), (PARTS, (), (('k', 0, True, ONE),), 'pack', 0),
                (PARTS, (('lamp', ('bulb', 'candle')),), (), 'name', (1, 0)), (PARTS, (), PACKS, 'sheet', (0, 1)),
                (PARTS, (), (('k', 0, True, (ONE,)),), 'sheet', (0, 0)),
                (PARTS, (), (('k', 0, True, ((ONE, 1),)),), 'sheet', (0, 0)),
                (PARTS, (), (('k', 0, True, (('lamp', ONE),)),), 'sheet', (0, 0)),
                (PARTS, (), (('a', 0, True, (('b', 1),)), ('b', 0, True, (('a', 1),))), 'ring', 0)):
            self.raises(InvalidPaper, {'word': word, 'at': at}, Shop, parts, choices, packs)
        for wrong in NOTHINGS + OBJECTS:
            if wrong not in ((('lamp', 0),), (('nosuch', 1),)):
                with self.assertRaises(InvalidPaper):
                    Shop(wrong, (), ())

    def test_an_object_is_no_shop_of_the_functions(self):
        self.gives(is_shop(ONE), False)
        self.raises(InvalidPaper, {'word': 'shape', 'at': -1}, LiveShop, ONE)

    def test_read(self):
        for shop in SHOPS:
            self.is_shop_of(Shop.read(shop_text(shop)), shop)
            self.is_shop_of(Shop.read(text=str(Shop(*shop))), shop)
        # Called on another class, or on an object, it is a Shop all the same.
        for one in (Left, Loose, Sealed, Left(), Loose(PARTS)):
            self.is_shop_of(one.read(shop_text(STIFF)), STIFF)

    def test_read_of_texts_that_write_none(self):
        for wrong in (None, True, 0, (), ['part a 1'], ('part a 1',), DEEPLY) + OBJECTS:
            self.refuses('text', Shop.read, wrong)
        for text, line, field in (('', 0, 0), ('part a', 0, 2), ('part a 1\n', 1, 0), ('part a 01', 0, 2),
                                  ('part a 1\npack b 1 maybe a*1', 1, 3), ('choice a b,c', 0, 0)):
            self.raises(InvalidText, {'line': line, 'field': field}, Shop.read, text)
        # These can be read, but are no shops.
        for text, word, at in (('part b 1\npart a 1', 'part', 1), ('part a 1\nchoice b a', 'choice', 0),
                               ('part a 1\npack a 0 no a*1', 'name', (2, 0)), ('part a 1\npack b 0 no b*1', 'sheet', (0, 0)),
                               ('part a 1\npack b 0 no c*1\npack c 0 no b*1', 'ring', 0)):
            self.raises(InvalidPaper, {'word': word, 'at': at}, Shop.read, text)

    def test_of(self):
        self.is_shop_of(Shop.of(*PARTS), (PARTS, (), ()))
        self.is_shop_of(Shop.of(PARTS[0]), (PARTS[:1], (), ()))
        self.is_shop_of(Shop.of(part=PARTS[0]), (PARTS[:1], (), ()))
        self.is_shop_of(Shop.of(*PARTS, choices=CHOICES), (PARTS, CHOICES, ()))
        self.is_shop_of(Shop.of(*PARTS, choices=CHOICES, packs=PACKS), SHOP)
        self.is_shop_of(Shop.of(*PARTS, packs=STIFF[2]), STIFF)
        for one in (Left, Loose, Sealed, ONE, Left()):
            self.is_shop_of(one.of(*PARTS), (PARTS, (), ()))
        # They stand in their order, whatever it is.
        self.raises(InvalidPaper, {'word': 'part', 'at': 1}, Shop.of, PARTS[1], PARTS[0])
        self.raises(InvalidPaper, {'word': 'part', 'at': 0}, Shop.of, PARTS)
        self.raises(InvalidPaper, {'word': 'part', 'at': 1}, Shop.of, PARTS[0], CHOICES, PACKS)
        self.raises(InvalidPaper, {'word': 'shape', 'at': -1}, Shop.of, *PARTS, choices=list(CHOICES))
        self.raises(InvalidPaper, {'word': 'shape', 'at': -1}, Shop.of, *PARTS, packs=ONE)
        with self.assertRaises(TypeError):
            Shop.of()


class Asked(Case):

    def test_by_name(self):
        for shop in SHOPS:
            one = Shop(*shop)
            for rows in shop:
                for row in rows:
                    self.gives(one[row[0]], row)
        for one in all_of_the_document():
            self.gives(one['lamp'], ('lamp', 4))
            for wrong in NO_NAMES + (slice(0, 1),):
                self.refuses('name', lambda: one[wrong])
        self.gives([ONE['light'], Sealed(ONE)['light'], Left()['box']], [CHOICES[0], CHOICES[0], PACKS[0]])

    def test_there(self):
        for shop in SHOPS:
            one = Shop(*shop)
            self.gives([one(article) for article in one], [there_of(shop, article) for article in articles_of(shop)])
        for one in all_of_the_document():
            self.gives([one('lamp'), one(article='plug')], [4, 5])
            for wrong in NO_ARTICLES:
                self.refuses('article', one, wrong)

    def test_in(self):
        for one in all_of_the_document():
            self.gives(['lamp' in one, 'box' in one, 'light' in one], [True, len(one.packings) > 0, False])
            for wrong in NO_ARTICLES:
                self.gives(wrong in one, False)

    def test_how_many_and_which(self):
        self.gives([len(ONE), list(ONE), list(Left())], [6, ['box', 'bulb', 'candle', 'lamp', 'plug', 'trio']] +
                   [['box', 'bulb', 'candle', 'lamp', 'plug', 'trio']])
        self.gives([len(Loose(PARTS)), list(Loose(PARTS))], [4, ['bulb', 'candle', 'lamp', 'plug']])
        self.gives([article for article in Shop(*STIFF)], ['bulb', 'candle', 'lamp', 'pair', 'plug'])

    def test_text(self):
        for one in all_of_the_document():
            self.gives(str(one), shop_text(one.form))

    def test_equal(self):
        shops = all_of_the_document() + [Shop(*STIFF), Shop(*DEEP), Loose(PARTS[:2]), Sealed(Sealed(ONE)), Sealed(Left()),
                                         Shop(*Sealed(ONE).form), Shop(PARTS, (), ()), Left()]
        equal = 0
        for one in shops:
            for other in shops:
                self.gives([one == other, one != other], [one.form == other.form, one.form != other.form])
                equal += one == other
        self.assertGreater(equal, len(shops) + 10)
        for other in NOTHINGS + (SHOP, PARTS, Shop, LiveShop(SHOP), Plan(SHOP, ()), str(ONE), 0):
            self.gives([ONE == other, ONE != other, other == ONE], [False, True, False])


class Changed(Case):

    def is_shop_of(self, one, form):
        self.assertIs(type(one), Shop)
        self.gives(one.form, form)

    def with_number(self, form, article, number):
        return tuple(tuple((row[0], number if row[0] == article else row[1]) + row[2:] for row in rows) for rows in form)

    def test_plus_and_minus(self):
        for one in all_of_the_document() + [Shop(*shop) for shop in SHOPS[:15]]:
            for article in one:
                there = one(article)
                for number in (0, 1, 60):
                    self.is_shop_of(one + (article, number), self.with_number(one.form, article, there + number))
                for number in range(there + 1):
                    self.is_shop_of(one - (article, number), self.with_number(one.form, article, there - number))
                    self.assertTrue(one - (article, number) + (article, number) == one)
                self.refuses('goods', lambda: one - (article, there + 1))
                self.refuses('goods', lambda: one - (article, there + 60))

    def test_no_goods(self):
        wrongs = NO_NAMES + ((), ('lamp',), ('lamp', 1, 1), ['lamp', 1], (1, 'lamp'), ('light', 1), ('nosuch', 1),
                             (('lamp', 1),), (ONE, 1), (None, 1), (['lamp'], 1), 'lamp', (('lamp', 1), ('plug', 1)))
        wrongs = [wrong for wrong in wrongs if wrong != ('box', 1) and wrong != ('lamp', 1)]
        for one in all_of_the_document():
            for wrong in wrongs + [('lamp', number) for number in NO_NUMBERS]:
                self.refuses('goods', lambda: one + wrong)
                self.refuses('goods', lambda: one - wrong)
        self.refuses('goods', lambda: Loose(PARTS) + ('box', 1))
        self.refuses('goods', lambda: ONE - ('lamp', 5))

    def test_in_place_they_make_another_one(self):
        one = other = Left()
        one += ('lamp', 2)
        one -= ('plug', 5)
        one %= (('lamp', 'amp'),)
        self.is_shop_of(one, ((('amp', 6), ('bulb', 2), ('candle', 1), ('plug', 0)), CHOICES,
                              (('box', 1, False, (('amp', 1), ('light', 1), ('trio', 1))),
                               ('trio', 1, True, (('amp', 1), ('plug', 2))))))
        self.gives([other.form, type(other) is Left], [SHOP, True])

    def test_renamed(self):
        tables = ((), (('lamp', 'amp'),), (('bulb', 'lamp'), ('lamp', 'bulb')))
        for one in all_of_the_document():
            for table in tables:
                self.is_shop_of(one % table, renamed(one.form, table))
            for wrong in NOTHINGS + OBJECTS + ((('nosuch', 'amp'),), (('lamp', 'plug'),), [('lamp', 'amp')],
                                               (('lamp', ONE),), ((ONE, 'amp'),), 0, 'lamp'):
                if wrong != ():
                    self.refuses('table', lambda: one % wrong)

    def test_stocked(self):
        for one in all_of_the_document() + [Shop(*shop) for shop in SHOPS[:15]]:
            for article in one:
                for number in (0, 1, 61):
                    self.is_shop_of(one.stocked(article, number), self.with_number(one.form, article, number))
            for wrong in NO_ARTICLES:
                self.refuses('article', one.stocked, wrong, 1)
                self.refuses('article', one.stocked, wrong, None)
        self.is_shop_of(ONE.stocked(article='box', number=7), self.with_number(SHOP, 'box', 7))
        for wrong in NO_NUMBERS:
            self.refuses('number', ONE.stocked, 'lamp', wrong)
            self.refuses('article', ONE.stocked, 'light', wrong)

    def test_offering(self):
        for one in all_of_the_document():
            self.is_shop_of(one.offering('cable', 3), with_part(one.form, 'cable', 3))
            self.is_shop_of(one.offering(part='a', stock=0), with_part(one.form, 'a', 0))
            for wrong in OBJECTS + (None, 'lamp', 'Lamp', '', 1, ['a']):
                self.refuses('part', one.offering, wrong, 3)
                self.refuses('part', one.offering, wrong, None)
            for wrong in NO_NUMBERS:
                self.refuses('stock', one.offering, 'cable', wrong)
        self.refuses('part', ONE.offering, 'light', 3)
        self.refuses('part', ONE.offering, 'trio', 3)

    def test_packing(self):
        sheet = (('lamp', 1), ('plug', 2))
        for one in all_of_the_document():
            self.is_shop_of(one.packing('kit', 2, True, sheet), with_pack(one.form, 'kit', 2, True, sheet))
            self.is_shop_of(one.packing(pack='a', made=0, apart=False, sheet=sheet[1:]),
                            with_pack(one.form, 'a', 0, False, sheet[1:]))
            for wrong in OBJECTS + (None, 'lamp', 'Lamp', '', 1, ['a']):
                self.refuses('pack', one.packing, wrong, 2, True, sheet)
            for wrong in NO_NUMBERS:
                self.refuses('made', one.packing, 'kit', wrong, True, sheet)
            for wrong in OBJECTS + (None, 0, 1, 'yes'):
                self.refuses('apart', one.packing, 'kit', 2, wrong, sheet)
            for wrong in OBJECTS + (None, (), [('lamp', 1)], (('kit', 1),), (('lamp', 0),), (ONE,), ((ONE, 1),),
                                    (('lamp', ONE),)):
                self.refuses('sheet', one.packing, 'kit', 2, True, wrong)
        self.refuses('sheet', ONE.packing, 'kit', 2, True, (('light', 1),))
        self.is_shop_of(ONE.packing('kit', 2, False, (('light', 1),)), with_pack(SHOP, 'kit', 2, False, (('light', 1),)))

    def test_dropping(self):
        self.is_shop_of(ONE.dropping('box'), without(SHOP, 'box'))
        self.is_shop_of(Left().dropping(name='box'), without(SHOP, 'box'))
        self.is_shop_of(Sealed(ONE).dropping('box').dropping('light').dropping('bulb'),
                        (PARTS[1:], (), (('trio', 1, False, PACKS[1][3]),)))
        self.is_shop_of(Loose(PARTS).dropping('lamp'), ((PARTS[0], PARTS[1], PARTS[3]), (), ()))
        for wrong in NO_NAMES + ('bulb', 'lamp', 'light', 'trio'):
            self.refuses('name', ONE.dropping, wrong)
        self.refuses('name', Loose(PARTS[:1]).dropping, 'bulb')

    def test_it_never_changes(self):
        for one in all_of_the_document():
            form = one.form
            one + ('lamp', 1)
            one - ('lamp', 1)
            one % (('lamp', 'amp'),)
            one.stocked('lamp', 0)
            one.offering('cable', 1)
            one.packing('kit', 1, False, (('lamp', 1),))
            list(one).clear()
            self.gives([one.form, one('lamp'), str(one)], [form, 4, shop_text(form)])


class Derived(Case):

    def test_loose(self):
        one = Loose(parts=PARTS)
        self.assertIsInstance(one, Shop)
        self.gives([one.form, one.given, one.stocks, one.eithers, one.packings], [(PARTS, (), ()), PARTS, PARTS, (), ()])
        self.assertIs(one.given, PARTS)
        for wrong, word, at in (((), 'shape', -1), (None, 'shape', -1), (list(PARTS), 'shape', -1), (ONE, 'shape', -1),
                                (PARTS[::-1], 'part', 1), ((('a', -1),), 'part', 0), ((ONE,), 'part', 0),
                                ((('a', 1), ('a', 2)), 'part', 1)):
            self.raises(InvalidPaper, {'word': word, 'at': at}, Loose, wrong)
        with self.assertRaises(AttributeError):
            one.given = ()

    def test_sealed(self):
        for shop in SHOPS:
            source = Shop(*shop)
            one = Sealed(source)
            self.assertIsInstance(one, Shop)
            self.assertIs(one.source, source)
            self.gives(one.form, (shop[0], shop[1], tuple((name, made, False, sheet) for name, made, _, sheet in shop[2])))
            self.gives(source.form, shop)
        for source in (Left(), Loose(PARTS), Sealed(ONE)):
            self.assertIs(Sealed(source=source).source, source)
            self.gives(Sealed(source).stocks, PARTS)
        with self.assertRaises(AttributeError):
            one.source = ONE

    def test_no_source(self):
        for wrong in NOTHINGS + (SHOP, 0, Shop, str(ONE), LiveShop(SHOP), Plan(SHOP, ()), (ONE,), [ONE]):
            self.refuses('source', Sealed, wrong)


class Examples(Case):

    def test_of_the_document(self):
        one = Shop(PARTS, CHOICES, PACKS)
        self.gives([one['trio'][1], one('lamp'), 'light' in one, len(one), list(one)[:3], (one - ('lamp', 4))('lamp'),
                    Sealed(one)['trio'][2]], [1, 4, False, 6, ['box', 'bulb', 'candle'], 0, False])
        self.gives([Loose(PARTS) == Shop.of(('bulb', 2), ('candle', 1), ('lamp', 4), ('plug', 5)),
                    Shop.read(str(one)) == one, one.dropping('box').packings[0][0]], [True, True, 'trio'])
        self.refuses('goods', lambda: one - ('box', 2))


if __name__ == '__main__':
    unittest.main()
