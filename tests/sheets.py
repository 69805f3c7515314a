"""Sheets with numbers that are shown, what is none, and the definition [57] by plain search."""

import random
from itertools import product

from tests.samples import DEEPLY

SHEETS = (('duo', (('lamp', 2),)), ('trio', (('lamp', 1), ('plug', 2))))
SHOWN = (('duo', 2), ('trio', 3))

NO_SHEETS = (None, True, 0, '', 'duo', (), [], list(SHEETS), (None,), ('duo', (('lamp', 2),)), (('duo',),),
             (('duo', (('lamp', 2),), ()),), (['duo', (('lamp', 2),)],), (('Duo', (('lamp', 2),)),),
             ((None, (('lamp', 2),)),), ((['duo'], (('lamp', 2),)),), (('duo', ()),), (('duo', None),),
             (('duo', [('lamp', 2)]),), (('duo', ('lamp', 2)),), (('duo', (['lamp', 2],)),), (('duo', (('lamp',),)),),
             (('duo', (('lamp', 2, 2),)),), (('duo', (('lamp', 0),)),), (('duo', (('lamp', -1),)),),
             (('duo', (('lamp', True),)),), (('duo', (('lamp', '2'),)),), (('duo', (('lamp', None),)),),
             (('duo', (('Lamp', 2),)),), (('duo', ((None, 2),)),), (('duo', ((['lamp'], 2),)),),
             (('duo', (('plug', 1), ('lamp', 1))),), (('duo', (('lamp', 1), ('lamp', 1))),),
             (('duo', (('lamp', 1), ('lamp', 2))),), (('duo', (('lamp', 2),)), None), SHEETS[::-1],
             (('duo', (('lamp', 1), ('plug', 0))),), (('duo', (('lamp', 1), None)),),
             (SHEETS[0], SHEETS[0]), (SHEETS[0], ('duo', (('lamp', 3),))),
             # A name of both a pack and a part: of itself, of another one, ahead and behind.
             (('duo', (('duo', 1),)),), (('duo', (('lamp', 1),)), ('trio', (('duo', 1),))),
             (('duo', (('trio', 1),)), ('trio', (('lamp', 1),))), (('duo', (('lamp', 1), ('trio', 1))), SHEETS[1]),
             DEEPLY, (DEEPLY,), (('duo', DEEPLY),), (None,) * 5000)
NO_SHOWN = (None, True, 0, '', 'duo', (), [], list(SHOWN), SHOWN[:1], SHOWN[1:], SHOWN[::-1], SHOWN + SHOWN[1:],
            (*SHOWN, ('zz', 0)), (None, None), (SHOWN[0], None), (SHOWN[0], ('trio',)), (SHOWN[0], ('trio', 3, 3)),
            (SHOWN[0], ['trio', 3]), (SHOWN[0], ('trio', True)), (SHOWN[0], ('trio', -1)), (SHOWN[0], ('trio', '3')),
            (SHOWN[0], ('trio', None)), (SHOWN[0], ('lamp', 3)), (SHOWN[0], (None, 3)), (SHOWN[0], (['trio'], 3)),
            (SHOWN[0], SHOWN[0]), (('duo', True), ('trio', 3)), (('duo', False), ('trio', 3)), (2, 3),
            DEEPLY, (DEEPLY, DEEPLY))


def parts_of_sheets(sheets):
    return sorted({part for _, sheet in sheets for part, _ in sheet})


def most_of(sheet, stocks):
    """Of how many pieces of the pack the stocks give all counts, one by one."""
    number = 0
    while all(stocks[part] >= count * (number + 1) for part, count in sheet):
        number += 1
    return number


def fit(sheets, shown, stocks):
    return all(most_of(sheet, stocks) == number for (_, sheet), (_, number) in zip(sheets, shown))


def all_that_fit(sheets, shown):
    """All stocks that fit up to a bound, which stands for any stock above it too; and the bound."""
    parts = parts_of_sheets(sheets)
    bound = max(count * (number + 1) for (_, sheet), (_, number) in zip(sheets, shown) for _, count in sheet)
    found = []
    for numbers in product(range(bound + 1), repeat=len(parts)):
        if fit(sheets, shown, dict(zip(parts, numbers))):
            found.append(dict(zip(parts, numbers)))
    return found, bound


def some_sheets(many, seed, parts=3, packs=3, count=2, shown=2):
    """So many small sheets, each with numbers that are shown; few of them fit by chance: many are made to."""
    rng = random.Random(seed)
    found = []
    for _ in range(many):
        names = ['pa', 'pb', 'pc', 'pd'][:rng.randint(1, parts)]
        some = rng.sample(['ka', 'pab', 'zz', 'm'], rng.randint(1, packs))
        sheets = tuple((pack, tuple((part, rng.randint(1, count)) for part in
                                    sorted(rng.sample(names, rng.randint(1, len(names)))))) for pack in sorted(some))
        numbers = [rng.randint(0, shown) for _ in sheets]
        if rng.random() < 0.5:
            stocks = {part: rng.randint(0, shown * count) for part in names}
            numbers = [min(most_of(sheet, stocks), shown) for _, sheet in sheets]
        found.append((sheets, tuple((pack, number) for (pack, _), number in zip(sheets, numbers))))
    return found
