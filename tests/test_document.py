"""The whole document: all its examples, and what [2] says of all functions together."""

import importlib
import unittest

from kitsleft import errors
from kitsleft.eventtexts import log_lines

from tests.cases import Case
from tests.examples import EXAMPLES
from tests.samples import CHOICES, PACKS, PARTS, SHOP, STIFF
from tests.sheets import SHEETS, SHOWN
from tests.test_interface import FUNCTIONS

OPEN = (PARTS, (), (PACKS[1],))
THREE = (('box', 3),)
DEEDS = (('apart', 'trio'), ('sell', 'lamp'))
EVENTS = (('owe', 'box'), ('hold', 'ann', 'trio', 1), ('build', 'box', ((), ('bulb',), ())))
LOG = (('live', SHOP), *EVENTS)
LINES = ['live 2', 'part a 1', 'part b 2', 'owe a', 'note noon']
HELD = ('held', (('box', 2), ('trio', 2)), (('light', 'bulb', 2),))
FIT = ('fit', (('lamp', 4), ('plug', 7)))
TABLE = (('bulb', 'candle'), ('candle', 'bulb'))

# For each function arguments that it accepts.
CALLS = {
    'is_integer': (1,), 'is_number': (1,), 'is_name': ('lamp',), 'is_names': (('box', 'lamp'),), 'is_shop': (SHOP,),
    'is_row': (SHOP, THREE), 'is_deed': (SHOP, DEEDS[0]), 'lets_shop': (SHOP,),
    'parts_of': (SHOP,), 'choices_of': (SHOP,), 'packs_of': (SHOP,), 'articles_of': (SHOP,), 'stock_of': (SHOP, 'lamp'),
    'options_of': (SHOP, 'light'), 'made_of': (SHOP, 'box'), 'can_part': (SHOP, 'box'), 'sheet_of': (SHOP, 'box'),
    'there_of': (SHOP, 'box'), 'namers_of': (SHOP, 'light'), 'inside_of': (SHOP, 'box'), 'outer_order': (SHOP,),
    'with_stock': (SHOP, 'lamp', 7), 'with_made': (SHOP, 'box', 7), 'with_apart': (SHOP, 'trio', False),
    'with_options': (SHOP, 'light', ('bulb', 'lamp')), 'with_sheet': (SHOP, 'box', (('light', 2),)),
    'with_part': (SHOP, 'cable', 7), 'with_choice': (SHOP, 'cable', ('bulb', 'lamp')),
    'with_pack': (SHOP, 'kit', 7, True, (('lamp', 2),)), 'without': (SHOP, 'box'), 'renamed': (SHOP, TABLE),
    'number_in': (SHOP, THREE, 'box'), 'row_sum': (SHOP, THREE, THREE), 'is_at_most': (SHOP, THREE, ()),
    'shop_text': (SHOP,), 'row_text': (THREE,), 'shop_read': ('part a 1\nchoice c a',), 'row_read': ('box*3',),
    'netted': (SHOP, THREE), 'lets_hold': (SHOP, THREE, HELD), 'hold_paper': (SHOP, THREE), 'is_held': (SHOP, THREE),
    'overasked': (SHOP, (('box', 4),)), 'givings': (SHOP, THREE), 'is_possible': (SHOP, DEEDS[0]),
    'behind': (SHOP, DEEDS), 'serves': (SHOP, DEEDS, (('lamp', 1),)), 'plan_of': (SHOP, THREE),
    'alone_of': (SHOP, 'lamp'), 'alone_row': (SHOP,), 'are_true_alone': (SHOP, THREE), 'beside': (SHOP, THREE, 'lamp'),
    'besides': (SHOP, THREE, 'box', 'trio'), 'breaking_row': (SHOP, (('box', 9), ('lamp', 9))),
    'is_breaking': (SHOP, THREE), 'alone_together': (SHOP,), 'greatest_rows': (SHOP, ('box', 'trio')),
    'count_rows': (SHOP, ('box', 'trio')), 'row_above': (SHOP, ('box', 'trio'), ()),
    'fairest_row': (SHOP, ('box', 'trio'), (1, 2)), 'hand_serves': (OPEN, ('lamp',) * 6),
    'built_ahead': (SHOP, 'trio', 2), 'parted': (SHOP, 'trio', 1), 'holds_behind': (STIFF, 'pair', 1, ()),
    'lost_row': (STIFF, 'pair', 1), 'is_flat': (SHOP,), 'is_soft': (SHOP, 'trio'), 'flattened': (SHOP,),
    'same_flat': (SHOP,), 'flat_row': ((PARTS, CHOICES, (PACKS[0], ('trio', 1, False, PACKS[1][3]))),),
    'is_schedule': (OPEN, ((), ())), 'can_deliver': (OPEN, ((0, (('lamp', 6),)),), ()),
    'first_late': (OPEN, ((0, (('lamp', 6),)),), ()), 'lacking_goods': (OPEN, ((0, (('lamp', 6),)),), ()),
    'stocks_behind': (SHEETS, SHOWN), 'stock_paper': (SHEETS, SHOWN), 'lets_stocks': (SHEETS, SHOWN, FIT),
    'shown_by': (SHOP, 'loose'), 'parting_article': (SHOP, 'loose', 'alone'), 'can_be_false': (SHOP, 'alone'),
    'is_log': (LOG,), 'replayed': (LOG,), 'is_event': (EVENTS[0],), 'event_line': (EVENTS[2],), 'log_lines': (LOG,),
    'read_event': ('hold ann box 2',), 'read_log': (LINES,),
}


def told(error):
    """An error as the document writes it."""
    fields = ', '.join(f'{name}={value!r}' for name, value in vars(error).items())
    return f'{type(error).__name__}({fields})'


def pairs_of_lines(text):
    """Each line of code, with the line that tells what it gives, or None."""
    lines = [line for line in text.split('\n') if line]
    for at, line in enumerate(lines):
        if line.startswith('>>> '):
            wanted = lines[at + 1] if at + 1 < len(lines) else '>>> '
            yield line[4:], None if wanted.startswith('>>> ') else wanted


class Examples(Case):

    def run_one(self, code, wanted, names):
        if wanted is None:
            exec(code, names)
        elif wanted.startswith('raises '):
            with self.assertRaises(errors.KitError) as error:
                eval(code, names)
            self.assertEqual(told(error.exception), wanted[len('raises '):])
        else:
            self.gives(eval(code, names), eval(wanted, {}))

    def test_all_of_them(self):
        names, checked = {}, 0
        for code, wanted in pairs_of_lines(EXAMPLES):
            with self.subTest(code):
                self.run_one(code, wanted, names)
                checked += wanted is not None
        self.assertEqual(checked, 63)

    def test_the_same_once_more(self):
        for _ in range(2):
            names = {}
            for code, wanted in pairs_of_lines(EXAMPLES):
                self.run_one(code, wanted, names)


def functions():
    """Each function of the interface, with its parameters."""
    for module, texts in FUNCTIONS.items():
        for text in texts:
            name, _, parameters = text.partition('(')
            plain = [word for word in parameters.rstrip(')').split(', ') if word and '=' not in word and word != '*']
            yield getattr(importlib.import_module('kitsleft.' + module), name), plain


class AllFunctions(Case):

    def test_there_is_a_call_of_each(self):
        self.assertEqual({function.__name__ for function, _ in functions()}, set(CALLS))

    def results(self):
        return [function(*CALLS[function.__name__]) for function, _ in functions()]

    def test_the_same_call_again_tells_the_same(self):
        first = self.results()
        backwards = [function(*CALLS[function.__name__]) for function, _ in reversed(list(functions()))][::-1]
        for one, other, late in zip(first, backwards, self.results()):
            self.assertTrue(one == other == late)
            self.assertEqual(type(one), type(other))

    def test_by_position_and_by_name(self):
        for function, parameters in functions():
            arguments = CALLS[function.__name__]
            self.assertEqual(len(arguments), len(parameters), function)
            by_name = function(**dict(zip(parameters, arguments)))
            self.assertTrue(by_name == function(*arguments), function)

    def test_arguments_are_not_changed(self):
        for function, _ in functions():
            arguments = CALLS[function.__name__]
            before = repr(arguments)
            function(*arguments)
            self.assertEqual(repr(arguments), before)

    def test_lists_belong_to_the_caller(self):
        result = log_lines(LOG)
        wanted = list(result)
        result.clear()
        self.gives(log_lines(LOG), wanted)


if __name__ == '__main__':
    unittest.main()
