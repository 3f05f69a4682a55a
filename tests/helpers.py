"""What several tests need."""

import unittest

from nearloops.errors import NearError


class NearCase(unittest.TestCase):
    """A test case that also looks at the fields of errors."""

    def assertFails(self, kind, value, call, *args, **more):
        """Check that a call raises exactly this kind with exactly this field."""
        with self.assertRaises(NearError) as caught:
            call(*args, **more)
        error = caught.exception
        self.assertIs(type(error), kind)
        (field,) = vars(error).values()
        # True and 1 are equal, but an error names the one that was passed.
        self.assertIs(type(field), type(value))
        self.assertEqual(field, value)


class Unequal:
    """An object that is hard to handle: without a hash, without a text."""

    __hash__ = None

    def __repr__(self):
        raise RuntimeError("no text")


class EqualToAll:
    """An object that says that it is equal to everything."""

    __hash__ = None

    def __eq__(self, other):
        return True
