"""Shops to try things on: the one of the document, others, and small ones in great number."""

import random

PARTS = (('bulb', 2), ('candle', 1), ('lamp', 4), ('plug', 5))
CHOICES = (('light', ('bulb', 'candle')),)
PACKS = (('box', 1, False, (('lamp', 1), ('light', 1), ('trio', 1))),
         ('trio', 1, True, (('lamp', 1), ('plug', 2))))
SHOP = (PARTS, CHOICES, PACKS)
STIFF = (PARTS, (), (('pair', 0, False, (('lamp', 2),)),))

# Packs within packs, soft around stiff and stiff around soft: crate > case > (kit, bolt), crate > kit.
DEEP = ((('bolt', 9), ('nut', 7), ('wire', 6)), (),
        (('case', 2, True, (('bolt', 1), ('kit', 2))),
         ('crate', 1, False, (('case', 1), ('kit', 1), ('wire', 1))),
         ('kit', 1, False, (('bolt', 1), ('nut', 2))),
         ('wrap', 2, True, (('case', 1), ('wire', 2)))))

# Three choices that share parts, in one pack each.
SHARED = ((('pa', 1), ('pb', 1), ('pc', 1)),
          (('ca', ('pa', 'pb')), ('cb', ('pb', 'pc')), ('cc', ('pa', 'pc'))),
          (('ka', 0, False, (('ca', 1),)), ('kb', 0, False, (('cb', 1),)), ('kc', 0, False, (('cc', 1),))))

PART_NAMES = ('pa', 'pb', 'pc')
CHOICE_NAMES = ('ca', 'cb', 'cc')
PACK_NAMES = ('ka', 'kb', 'kc', 'kd')

DEEPLY = 'lamp'
for _ in range(30):
    DEEPLY = [DEEPLY]

# No name of anything in any of these shops, and no row, number, set or schedule either.
NOTHINGS = (None, True, False, -1, '', 'Lamp', 'lamp ', 'nosuch', 'overlongname', ['lamp'], ['box'], ('lamp',),
            ('box',),
            [], (1,), [('lamp', 1)], (['lamp', 1],), (('lamp', 0),), (('lamp', True),), (('lamp', 1, 1),), ('lamp', 1),
            (('nosuch', 1),), ((None, 1),), ((('lamp',), 1),), (([], 1),), DEEPLY, -10 ** 59, (None,) * 5000)


def some_shop(rng, parts=3, choices=2, packs=3, stock=3, made=2, count=2):
    """A shop with at most so many parts, choices, packs, pieces, and counts to count."""
    shop_parts = tuple((name, rng.randint(0, stock)) for name in PART_NAMES[:rng.randint(min(2, parts), parts)])
    names = [name for name, _ in shop_parts]
    shop_choices = []
    for name in CHOICE_NAMES[:rng.randint(0, choices)]:
        shop_choices.append((name, tuple(sorted(rng.sample(names, rng.randint(2, len(names)))))))
    # The packs contain each other in an order that is not that of their names.
    order = rng.sample(PACK_NAMES, rng.randint(0, packs))
    shop_packs = []
    for at, name in enumerate(order):
        apart = rng.random() < 0.5
        inner = names + 2 * order[at + 1:]
        if not apart:
            inner = inner + 2 * [choice for choice, _ in shop_choices]
        sheet = sorted(set(rng.choices(inner, k=rng.randint(1, 3))))
        shop_packs.append((name, rng.randint(0, made), apart, tuple((other, rng.randint(1, count)) for other in sheet)))
    return (shop_parts, tuple(shop_choices), tuple(sorted(shop_packs)))


def some_shops(many, seed, **limits):
    """So many shops, each time the same ones."""
    rng = random.Random(seed)
    return [some_shop(rng, **limits) for _ in range(many)]


def some_rows(shop, many, seed, most=3):
    """So many rows of the shop, each time the same ones: all numbers up to most, and many of them 0."""
    rng = random.Random(seed)
    names = sorted(row[0] for row in shop[0] + shop[2])
    rows = []
    for _ in range(many):
        some = rng.sample(names, rng.randint(0, min(4, len(names))))
        rows.append(tuple((name, rng.randint(1, most)) for name in sorted(some)))
    return rows
