"""What several tests need."""

import unittest

from nearloops.errors import NearError
from nearloops.loops import Loop

MOST = 10 ** 30 - 1
NO_INTEGERS = [True, False, None, 1.0, "1", b"1", [1], (1,), {}, 1j]
NO_ROWS = [None, True, 0, 7, 1.0, "", "12", b"12", {}, {1: 2}, {1, 2}, range(3), object()]

# The loops of nearloops.known, made from the texts that the document gives for them.
KNOWN_TEXTS = {
    "leader": "seek none far: new keep -> seek",
    "chain": "seek none far: new keep -> seek\nseek near: join keep -> seek",
    "cells": "seek cell: pass pass -> seek\nseek none any: new keep -> seek",
    "peak": "seek none: new keep -> seek\nseek more: rise keep -> seek\nseek under: fall pass -> fell\n"
            "fell more: rise keep -> fell\nfell under: fall pass -> fell\nanswer fell fell",
}
LEADER, CHAIN, CELLS, PEAK = [Loop.parse(text) for text in KNOWN_TEXTS.values()]


class NearCase(unittest.TestCase):
    """A test case that also looks at the fields of errors."""

    def assertFails(self, kind, value, call, *args, **more):
        """Check that a call raises exactly this kind with exactly this field."""
        with self.assertRaises(NearError) as caught:
            call(*args, **more)
        error = caught.exception
        self.assertIs(type(error), kind)
        (field,) = vars(error).values()
        # True and 1 are equal, but an error names the one that was passed.
        self.assertIs(type(field), type(value))
        self.assertEqual(field, value)


class Unequal:
    """An object that is hard to handle: without a hash, without a text."""

    __hash__ = None

    def __repr__(self):
        raise RuntimeError("no text")


class EqualToAll:
    """An object that says that it is equal to everything."""

    __hash__ = None

    def __eq__(self, other):
        return True
