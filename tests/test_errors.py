"""The errors: their bases and fields [10], "The interface"."""

import unittest

from kitsleft import errors

FAMILIES = ('PaperError', 'ShopError', 'LiveError', 'TextError')
FIELDS = {
    'InvalidPaper': ('PaperError', ('word', 'at')),
    'NotUsable': ('ShopError', ('word', 'at')),
    'NotHeld': ('ShopError', ('short',)),
    'NotPossible': ('ShopError', ('at',)),
    'InvalidEvent': ('LiveError', ('event', 'reason')),
    'NothingToUndo': ('LiveError', ('steps',)),
    'InvalidText': ('TextError', ('line', 'field')),
    'InvalidRow': ('TextError', ('row',)),
}


class Bases(unittest.TestCase):

    def test_root(self):
        self.assertTrue(issubclass(errors.KitError, ValueError))

    def test_families(self):
        for name in FAMILIES:
            self.assertEqual(getattr(errors, name).__bases__, (errors.KitError,), name)

    def test_errors(self):
        for name, (family, _) in FIELDS.items():
            self.assertEqual(getattr(errors, name).__bases__, (getattr(errors, family),), name)

    def test_each_is_defined_in_errors(self):
        for name in ('KitError',) + FAMILIES + tuple(FIELDS):
            self.assertEqual(getattr(errors, name).__module__, 'kitsleft.errors')
            self.assertEqual(getattr(errors, name).__name__, name)


class Fields(unittest.TestCase):

    def test_the_very_objects_by_position(self):
        for name, (_, fields) in FIELDS.items():
            values = [['lamp', [None, True]], (1, [2])][:len(fields)]
            made = getattr(errors, name)(*values)
            for field, value in zip(fields, values):
                self.assertIs(getattr(made, field), value, name)

    def test_the_very_objects_by_name(self):
        for name, (_, fields) in FIELDS.items():
            values = [[], 10 ** 59][:len(fields)]
            made = getattr(errors, name)(**dict(zip(fields, values)))
            for field, value in zip(fields, values):
                self.assertIs(getattr(made, field), value, name)

    def test_fields_stay_apart(self):
        for name, (_, fields) in FIELDS.items():
            made = getattr(errors, name)(*range(len(fields)))
            self.assertEqual([getattr(made, field) for field in fields], list(range(len(fields))), name)

    def test_just_these_fields(self):
        for name, (_, fields) in FIELDS.items():
            error = getattr(errors, name)
            for many in {0, 1, 2, 3} - {len(fields)}:
                with self.assertRaises(TypeError):
                    error(*range(many))
            with self.assertRaises(TypeError):
                error(other=1)

    def test_caught_by_family_and_root(self):
        for name, (family, fields) in FIELDS.items():
            for base in (getattr(errors, family), errors.KitError, ValueError):
                with self.assertRaises(base):
                    raise getattr(errors, name)(*range(len(fields)))


if __name__ == '__main__':
    unittest.main()
