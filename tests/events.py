"""Events of each form, and what is none, for the tests of events, their lines and live shops."""

NO_NAMES = (None, True, 1, '', 'Lamp', 'lamp ', 'lamp\n', 'lamp1', 'overlongs', ('lamp',), ['lamp'], ('lamp', 'plug'))
NO_NUMBERS = (None, True, False, 0, -1, '1', '', (1,), [1])
NO_TAKES = (None, True, 1, 'lamp', '-', '', (), [], [()], ['lamp'], [('lamp',)], ('lamp',), ((), 'lamp'), ((), None),
            (['lamp'],), ((), []), (('lamp', 'Plug'),), (('lamp', 1),), ((), ('',)), ((None,),), ((), (True,)),
            ((('lamp',),),), (((),),), ((), ('lamp', ('plug',))), {}, (1,))

# For each form events of it, and what cannot stand at each place behind the first one.
FORMS = {
    'owe': ((('owe', 'lamp'), ('owe', 'a')), (NO_NAMES,)),
    'give': ((('give', 'lamp'), ('give', 'abcdefgh')), (NO_NAMES,)),
    'back': ((('back', 'lamp'), ('back', 'nosuch')), (NO_NAMES,)),
    'hold': ((('hold', 'ann', 'lamp', 1), ('hold', 'hold', 'hold', 10 ** 60 - 1)), (NO_NAMES, NO_NAMES, NO_NUMBERS)),
    'free': ((('free', 'ann'), ('free', 'free')), (NO_NAMES,)),
    'buy': ((('buy', 'ann'), ('buy', 'buy')), (NO_NAMES,)),
    'goods': ((('goods', 'lamp', 1), ('goods', 'box', 61)), (NO_NAMES, NO_NUMBERS)),
    'build': ((('build', 'box', ((),)), ('build', 'box', ((), ('bulb',), ())),
               ('build', 'z', (('b', 'a', 'b'), ('c',)))),
              (NO_NAMES, NO_TAKES)),
    'apart': ((('apart', 'trio'), ('apart', 'x')), (NO_NAMES,)),
    'note': ((('note', 'noon'), ('note', 'note')), (NO_NAMES,)),
}
EVENTS = [event for events, _ in FORMS.values() for event in events]
