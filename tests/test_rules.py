"""Rules of showing: [47], [60], [61]."""

import unittest

from kitsleft.rules import can_be_false, parting_article, shown_by

from tests.cases import Case
from tests.oracle import alone, articles, at_most, holds, pieces, row
from tests.samples import CHOICES, DEEP, DEEPLY, NOTHINGS, PACKS, PARTS, SHARED, SHOP, STIFF, some_shops

RULES = ('there', 'loose', 'alone')
SHOPS = some_shops(150, 331, choices=2, packs=3, stock=4) + [SHOP, STIFF, DEEP, SHARED, (PARTS, (), ()),
                                                             (PARTS, CHOICES, ())]
NO_RULES = NOTHINGS + ('There', 'THERE', 'there ', 'alone\n', 'lamp', 'box', 0, 1, ('there',), ['there'], RULES,
                       'loosely', 'the', 'thereloose', DEEPLY)


def rigid(shop):
    return (shop[0], shop[1], tuple((name, made, False, sheet) for name, made, _, sheet in shop[2]))


def plainly_shown(shop, rule):
    """The row of [60], each number counted one by one."""
    if rule == 'there':
        return row(pieces(shop).items())
    some = rigid(shop) if rule == 'loose' else shop
    return row((article, alone(some, article)) for article in articles(shop))


class Shown(Case):

    def test_against_the_definition(self):
        for shop in SHOPS:
            for rule in RULES:
                self.gives(shown_by(shop, rule), plainly_shown(shop, rule))

    def test_each_rule(self):
        self.gives(shown_by(SHOP, 'there'),
                   (('box', 1), ('bulb', 2), ('candle', 1), ('lamp', 4), ('plug', 5), ('trio', 1)))
        # The trio that is there goes into a box, but gives no lamp.
        self.gives(shown_by(SHOP, 'loose'),
                   (('box', 3), ('bulb', 2), ('candle', 1), ('lamp', 4), ('plug', 5), ('trio', 3)))
        self.gives(shown_by(SHOP, 'alone'),
                   (('box', 3), ('bulb', 2), ('candle', 1), ('lamp', 5), ('plug', 7), ('trio', 3)))

    def test_nought_is_left_out(self):
        empty = ((('pa', 0),), (), (('ka', 0, True, (('pa', 1),)),))
        self.gives([shown_by(empty, rule) for rule in RULES], [()] * 3)
        self.gives(shown_by(STIFF, 'there'), PARTS)
        jar = ((('pa', 0),), (), (('ka', 2, True, (('pa', 3),)),))
        self.gives([shown_by(jar, rule) for rule in RULES], [(('ka', 2),), (('ka', 2),), (('ka', 2), ('pa', 6))])

    def test_no_rules(self):
        for wrong in NO_RULES:
            self.refuses('rule', shown_by, SHOP, wrong)
            self.refuses('rule', can_be_false, SHOP, wrong)
            self.refuses('rule', parting_article, SHOP, wrong, 'alone')
            self.refuses('rule', parting_article, SHOP, wrong, wrong)
            for rule in RULES:
                self.refuses('late', parting_article, SHOP, rule, wrong)

    def test_by_name(self):
        self.gives([shown_by(shop=STIFF, rule='there'), parting_article(shop=SHOP, rule='there', late='loose'),
                    can_be_false(shop=SHOP, rule='alone')], [PARTS, 'box', True])


class Parting(Case):

    def test_each_pair(self):
        found = {}
        for shop in SHOPS:
            for rule in RULES:
                for late in RULES:
                    early, later = dict(plainly_shown(shop, rule)), dict(plainly_shown(shop, late))
                    parts = [name for name in articles(shop) if early.get(name, 0) != later.get(name, 0)]
                    self.gives(parting_article(shop, rule, late), parts[0] if parts else None)
                    found[(rule, late, bool(parts))] = found.get((rule, late, bool(parts)), 0) + 1
        for rule in RULES:
            for late in RULES:
                self.assertGreater(found[(rule, late, False)], 10)
                self.assertEqual((rule, late, True) in found, rule != late)

    def test_the_first_by_name(self):
        self.gives([parting_article(SHOP, 'there', 'alone'), parting_article(SHOP, 'alone', 'there'),
                    parting_article(SHOP, 'loose', 'alone'), parting_article(SHOP, 'there', 'loose')],
                   ['box', 'box', 'lamp', 'box'])
        # A number against none at all, either way.
        jar = ((('pa', 0),), (), (('ka', 2, True, (('pa', 3),)),))
        self.gives([parting_article(jar, 'loose', 'alone'), parting_article(jar, 'alone', 'there'),
                    parting_article(jar, 'loose', 'there')], ['pa', 'pa', None])


class CanBeFalse(Case):

    def test_against_the_definition(self):
        both = {}
        for shop in SHOPS:
            for rule in RULES:
                result = can_be_false(shop, rule)
                self.gives(result, not holds(shop, plainly_shown(shop, rule)))
                both[(rule, result)] = both.get((rule, result), 0) + 1
        self.assertGreater(min(both[(rule, told)] for rule in RULES[1:] for told in (True, False)), 10)
        self.assertNotIn(('there', True), both)

    def test_loose_is_asked_in_the_shop_itself(self):
        # Each number alone of loose parts and of what is made up; together they hold, as the jar comes apart.
        jar = ((('pa', 0), ('pb', 1)), (), (('ka', 1, True, (('pa', 1),)), ('kb', 0, False, (('ka', 1), ('pb', 1)))))
        self.gives([can_be_false(jar, rule) for rule in RULES], [False, True, True])
        bare = (PARTS, (), (('ka', 1, True, (('lamp', 1),)),))
        self.gives([can_be_false(bare, rule) for rule in RULES], [False, True, True])
        full = ((('pa', 0),), (), (('ka', 1, True, (('pa', 1),)),))
        self.gives([can_be_false(full, rule) for rule in RULES], [False, False, True])


class Consequences(Case):

    def test_which_shows_more(self):
        for shop in SHOPS:
            there, loose, alone_ = (shown_by(shop, rule) for rule in RULES)
            self.assertTrue(at_most(there, loose) and at_most(loose, alone_))

    def test_there_is_never_false(self):
        for shop in SHOPS:
            self.gives(can_be_false(shop, 'there'), False)

    def test_loose_and_alone(self):
        both = [0, 0]
        for shop in SHOPS:
            made = any(pack[2] and pack[1] > 0 for pack in shop[2])
            self.gives(shown_by(shop, 'loose') == shown_by(shop, 'alone'), not made)
            both[made] += 1
        self.assertGreater(min(both), 30)
        for made, apart in ((0, True), (1, True), (0, False), (1, False)):
            shop = (PARTS, CHOICES, (PACKS[0], ('trio', made, apart, PACKS[1][3])))
            self.gives(shown_by(shop, 'loose') == shown_by(shop, 'alone'), not (made and apart))


class Examples(Case):

    def test_of_the_document(self):
        self.gives([shown_by(SHOP, 'there')[4:], shown_by(SHOP, 'loose')[0], shown_by(SHOP, 'alone')[3:]],
                   [(('plug', 5), ('trio', 1)), ('box', 3), (('lamp', 5), ('plug', 7), ('trio', 3))])
        self.gives([parting_article(SHOP, 'loose', 'alone'), parting_article(STIFF, 'loose', 'alone'),
                    [can_be_false(SHOP, rule) for rule in ('there', 'loose', 'alone')]],
                   ['lamp', None, [False, True, True]])


if __name__ == '__main__':
    unittest.main()
