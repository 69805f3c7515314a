"""What the tests of all modules share: exact results, and refusals."""

import unittest

from kitsleft.errors import NotUsable


def same(result, wanted):
    """Whether both are equal, and of the same kinds throughout, so that True is not 1."""
    if type(result) is not type(wanted):
        return False
    if isinstance(wanted, (tuple, list)):
        return len(result) == len(wanted) and all(same(one, other) for one, other in zip(result, wanted))
    return result == wanted


class Case(unittest.TestCase):

    def gives(self, result, wanted):
        self.assertTrue(same(result, wanted), f'{result!r} is not {wanted!r}')

    def raises(self, error, fields, function, *args, **more):
        """The call raises just this error, with just these fields."""
        try:
            result = function(*args, **more)
        except error as raised:
            self.assertIs(type(raised), error)
            for field, wanted in fields.items():
                self.gives(getattr(raised, field), wanted)
            return
        self.fail(f'{function!r} of {args!r} {more!r} returned {result!r}')

    def refuses(self, word, function, *args, **more):
        """The call raises NotUsable of this parameter."""
        self.raises(NotUsable, {'word': word, 'at': -1}, function, *args, **more)
