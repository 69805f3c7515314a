"""Events by form: is_event of [62]."""

import unittest

from kitsleft.liveevents import is_event

from tests.cases import Case
from tests.events import EVENTS, FORMS
from tests.samples import DEEPLY, NOTHINGS, SHOP


class Events(Case):

    def test_each_form(self):
        self.assertEqual(len(FORMS), 10)
        for event in EVENTS:
            self.gives(is_event(event), True)
            self.gives(is_event(thing=event), True)

    def test_one_place_that_is_not_as_it_must_be(self):
        for events, worths in FORMS.values():
            for event in events:
                self.assertEqual(len(worths), len(event) - 1)
                for place, wrongs in enumerate(worths):
                    for wrong in wrongs + (DEEPLY,):
                        self.gives(is_event(event[:place + 1] + (wrong,) + event[place + 2:]), False)

    def test_the_first_word(self):
        for event in EVENTS:
            for wrong in (None, True, 1, '', 'Owe', 'owe ', 'sell', 'live', 'owes', (event[0],), [event[0]], DEEPLY):
                self.gives(is_event((wrong,) + event[1:]), False)

    def test_the_word_of_another_form(self):
        for event in EVENTS:
            for word, (events, _) in FORMS.items():
                alike = len(events[0]) == len(event) and isinstance(events[0][-1], type(event[-1]))
                self.gives(is_event((word,) + event[1:]), alike)

    def test_too_short_and_too_long(self):
        for event in EVENTS:
            for many in range(len(event)):
                self.gives(is_event(event[:many]), False)
            for more in (None, 1, 'lamp', (), ((),), event[-1]):
                self.gives(is_event(event + (more,)), False)

    def test_no_tuples(self):
        for event in EVENTS:
            self.gives([is_event(list(event)), is_event((event,)), is_event(event[0]), is_event(' '.join(event[:2]))],
                       [False] * 4)

    def test_any_other_value(self):
        for wrong in NOTHINGS + (0, 1, (), SHOP, ('sell', 'lamp'), ('live', SHOP), 'owe', ('owe',)):
            self.gives(is_event(wrong), False)

    def test_takes(self):
        for takes in (((),), ((), ()), (('lamp',),), (('lamp', 'lamp'), (), ('plug', 'bulb')), ((),) * 100):
            self.gives(is_event(('build', 'box', takes)), True)


if __name__ == '__main__':
    unittest.main()
