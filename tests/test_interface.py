"""The interface: names, parameters, and where each function, class and method is defined."""

import importlib
import inspect
import unittest

FUNCTIONS = {
    'kinds': ('is_integer(thing)', 'is_number(thing)', 'is_name(thing)', 'is_names(thing)', 'is_shop(thing)',
              'is_row(shop, thing)', 'is_deed(shop, thing)'),
    'shopchecker': ('lets_shop(thing)',),
    'shopparts': ('parts_of(shop)', 'choices_of(shop)', 'packs_of(shop)', 'articles_of(shop)', 'stock_of(shop, part)',
                  'options_of(shop, choice)', 'made_of(shop, pack)', 'can_part(shop, pack)', 'sheet_of(shop, pack)',
                  'there_of(shop, article)', 'namers_of(shop, name)', 'inside_of(shop, pack)', 'outer_order(shop)'),
    'shopchanges': ('with_stock(shop, part, stock)', 'with_made(shop, pack, made)', 'with_apart(shop, pack, apart)',
                    'with_options(shop, choice, options)', 'with_sheet(shop, pack, sheet)',
                    'with_part(shop, part, stock)', 'with_choice(shop, choice, options)',
                    'with_pack(shop, pack, made, apart, sheet)', 'without(shop, name)', 'renamed(shop, table)'),
    'shoprows': ('number_in(shop, sales, article)', 'row_sum(shop, sales, late)', 'is_at_most(shop, sales, late)'),
    'shoptexts': ('shop_text(shop)', 'row_text(sales)'),
    'shopreadings': ('shop_read(text)', 'row_read(text, *, line=0, field=0)'),
    'netting': ('netted(shop, sales)',),
    'holdchecker': ('lets_hold(shop, sales, thing)',),
    'holdpapers': ('hold_paper(shop, sales)',),
    'holds': ('is_held(shop, sales)', 'overasked(shop, sales)', 'givings(shop, sales)'),
    'deeds': ('is_possible(shop, deed)', 'behind(shop, deeds)', 'serves(shop, deeds, sales)',
              'plan_of(shop, sales, *, order=None)'),
    'alone': ('alone_of(shop, article)', 'alone_row(shop)', 'are_true_alone(shop, sales)',
              'beside(shop, sales, article)', 'besides(shop, sales, less, article)'),
    'breaking': ('breaking_row(shop, sales)', 'is_breaking(shop, sales)', 'alone_together(shop)'),
    'rows': ('greatest_rows(shop, names)', 'count_rows(shop, names)', 'row_above(shop, names, sales)'),
    'fairest': ('fairest_row(shop, names, weights)',),
    'handless': ('hand_serves(shop, order)',),
    'ahead': ('built_ahead(shop, pack, number)', 'parted(shop, pack, number)',
              'holds_behind(shop, pack, number, sales)', 'lost_row(shop, pack, number)'),
    'flat': ('is_flat(shop)', 'is_soft(shop, pack)', 'flattened(shop)', 'same_flat(shop)', 'flat_row(shop)'),
    'days': ('is_schedule(shop, thing)', 'can_deliver(shop, orders, goods)', 'first_late(shop, orders, goods)',
             'lacking_goods(shop, orders, goods)'),
    'tellback': ('stocks_behind(sheets, shown)',),
    'stockpapers': ('stock_paper(sheets, shown)',),
    'stockchecker': ('lets_stocks(sheets, shown, thing)',),
    'rules': ('shown_by(shop, rule)', 'parting_article(shop, rule, late)', 'can_be_false(shop, rule)'),
    'replaying': ('is_log(thing)', 'replayed(log)'),
    'liveevents': ('is_event(thing)',),
    'eventtexts': ('event_line(event)', 'log_lines(log)'),
    'eventreadings': ('read_event(text)', 'read_log(lines)'),
}
CLASSES = {
    ('shopclasses', 'Shop'): (
        '__init__(self, parts, choices, packs)', '__getitem__(self, name)', '__call__(self, article)',
        '__contains__(self, thing)', '__len__(self)', '__iter__(self)', '__str__(self)', '__eq__(self, other)',
        '__add__(self, goods)', '__sub__(self, goods)', '__mod__(self, table)', 'stocked(self, article, number)',
        'offering(self, part, stock)', 'packing(self, pack, made, apart, sheet)', 'dropping(self, name)'),
    ('shopclasses', 'Loose'): ('__init__(self, parts)',),
    ('shopclasses', 'Sealed'): ('__init__(self, source)',),
    ('planclasses', 'Plan'): (
        '__init__(self, shop, deeds)', '__getitem__(self, k)', '__call__(self, many)', '__contains__(self, thing)',
        '__len__(self)', '__iter__(self)', '__eq__(self, other)', '__add__(self, deed)', 'first(self, many)',
        'then(self, other)'),
    ('planclasses', 'Serving'): ('__init__(self, shop, sales, *order)',),
    ('handless', 'Hand'): (
        '__init__(self, shop)', 'sell(self, article)', '__iadd__(self, article)', '__call__(self, article)',
        'undo(self)', '__len__(self)', '__contains__(self, thing)', '__iter__(self)', '__eq__(self, other)'),
    ('live', 'LiveShop'): (
        '__init__(self, shop)', 'more_of(self, article)', 'shown(self)', 'needed(self)', 'givable(self)',
        'owe(self, article)', 'give(self, article)', 'take_back(self, article)',
        'put_hold(self, name, article, number)', 'free(self, name)', 'buy(self, name)',
        'add_goods(self, part, number)', 'build(self, pack, takes)',
        'take_apart(self, pack)', 'note(self, name)', 'go(self, event)', '__call__(self, event)',
        '__getitem__(self, article)', '__contains__(self, thing)', '__iter__(self)', '__len__(self)',
        '__eq__(self, other)', '__str__(self)', 'tried(self, *events)', 'undo(self)',
        'do_all(self, *events, keep=False)', 'tally(self)', 'barred(self, event)', 'table(self)',
        'shop_then(self, name)', 'asked_then(self, name)', 'log(self)'),
    ('desk', 'Desk'): ('__init__(self)', 'say(self, row)', 'tally(self)'),
}
PROPERTIES = {
    ('shopclasses', 'Shop'): ('stocks', 'eithers', 'packings', 'form'),
    ('shopclasses', 'Loose'): ('given',),
    ('shopclasses', 'Sealed'): ('source',),
    ('planclasses', 'Plan'): ('start_now', 'deeds_now', 'shop_now', 'sold_now'),
    ('planclasses', 'Serving'): ('order_now',),
    ('handless', 'Hand'): ('shop_now', 'served_now', 'refused_now'),
    ('live', 'LiveShop'): ('shop_now', 'owed_now', 'given_now', 'holds_now', 'held_now', 'asked_now'),
}


def told(name, function):
    return name + str(inspect.signature(function))


class Interface(unittest.TestCase):

    def test_functions(self):
        for module, wanted in FUNCTIONS.items():
            held = vars(importlib.import_module('kitsleft.' + module))
            for text in wanted:
                name = text.split('(')[0]
                self.assertEqual(told(name, held[name]), text)
                self.assertEqual(held[name].__module__, 'kitsleft.' + module)

    def test_methods_stand_in_the_class_itself(self):
        for (module, name), wanted in CLASSES.items():
            one = vars(importlib.import_module('kitsleft.' + module))[name]
            self.assertEqual(one.__module__, 'kitsleft.' + module)
            for text in wanted:
                method = text.split('(')[0]
                self.assertEqual(told(method, vars(one)[method]), text)

    def test_class_and_static_methods(self):
        from kitsleft.shopclasses import Shop
        self.assertIsInstance(vars(Shop)['read'], classmethod)
        self.assertEqual(told('read', Shop.read), 'read(text)')
        self.assertIsInstance(vars(Shop)['of'], staticmethod)
        self.assertEqual(told('of', Shop.of), 'of(part, *parts, choices=(), packs=())')

    def test_bases(self):
        from kitsleft.planclasses import Plan, Serving
        from kitsleft.shopclasses import Loose, Sealed, Shop
        self.assertEqual([Serving.__bases__, Loose.__bases__, Sealed.__bases__], [(Plan,), (Shop,), (Shop,)])

    def test_properties(self):
        for (module, name), wanted in PROPERTIES.items():
            one = vars(importlib.import_module('kitsleft.' + module))[name]
            for text in wanted:
                self.assertIsInstance(vars(one)[text], property)


if __name__ == '__main__':
    unittest.main()
