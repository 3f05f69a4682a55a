"""The examples of the document, word for word."""

import contextlib
import doctest
import importlib.util
import sys
import types
import unittest
from unittest import mock

from nearloops.loops import Loop
from tests.helpers import KNOWN_TEXTS

EXAMPLES = [
    """
>>> from nearloops.places import place, turned, group
>>> [place(7, 0, 5), place(5, 0, 5), place(-1, 0, 5), place(-6, 0, 5), place(10, 4, 5)]
['+>', '+=', '->', 'below', 'above']
""",
    """
>>> from nearloops.places import place, turned, group
>>> [turned('+>'), turned('->'), turned('below'), group('over'), group('none')]
['-<', '+<', 'above', ('+>', 'above'), ()]
""",
    r"""
>>> from nearloops.loops import Loop
>>> loop = Loop.parse("a none far: new keep -> a\na -< near: old pass -> b\nb any: end pass -> b\nanswer b seen")
>>> [loop.states, loop.start, loop.answers, len(loop), loop.fitting("a", "-<"), loop.fitting("b", "none")]
[('a', 'b'), 'a', {'a': '', 'b': 'seen'}, 3, 0, None]
""",
    """
>>> from nearloops.loops import Loop
>>> from nearloops.runs import run
>>> told = run(Loop.parse("a none far: new keep -> a"), [0, 3, 4, 9, 7], 3)
>>> [told.words, told.kept, told.last, told.state, told.answer]
[('new', 'pass', 'new', 'new', 'pass'), (0, 4, 9), 9, 'a', '']
""",
    """
>>> from nearloops.rows import ranked, same_shape
>>> [ranked([7, 0, -3, 12, 7], 5), same_shape([0, 7], 5, [10, 13], 2)]
[([3, 0, -1, 5, 3], 2), True]
""",
    """
>>> from nearloops.joints import joint
>>> from nearloops.known import chain, leader
>>> [joint(leader(), chain(), [0, 5, 3], 3), joint(leader(), chain(), [], 1)]
[('seek', 'seek', (0, '<')), ('seek', 'seek', 'none')]
""",
    """
>>> from nearloops.joints import leads, way
>>> from nearloops.known import chain, leader
>>> [leads(leader(), chain(), ("seek", "seek", (0, "<")), ("seek", "seek", (1, "="))), way(leader(), chain(), ("seek", "seek", (3, "=")))]
[True, None]
""",
    """
>>> from nearloops.known import cells, chain, leader
>>> from nearloops.partings import parting, same
>>> [same(leader(), leader()), same(leader(), chain(), "answers"), len(parting(leader(), cells())[0])]
[True, True, 2]
""",
]


def known_loops():
    """Return a context in which nearloops.known is there: until it is written, one made from the texts."""
    if importlib.util.find_spec("nearloops.known") is not None:
        return contextlib.nullcontext()
    module = types.ModuleType("nearloops.known")
    for name, text in KNOWN_TEXTS.items():
        setattr(module, name, lambda text=text: Loop.parse(text))
    return mock.patch.dict(sys.modules, {"nearloops.known": module})


class ExamplesTest(unittest.TestCase):
    def test_examples(self):
        for number, example in enumerate(EXAMPLES, start=1):
            with self.subTest(number):
                test = doctest.DocTestParser().get_doctest(example, {}, f"example {number}", None, 0)
                told = []
                with known_loops():
                    result = doctest.DocTestRunner(verbose=False).run(test, out=told.append)
                self.assertEqual((result.failed, "".join(told)), (0, ""))
                self.assertGreaterEqual(result.attempted, 2)


if __name__ == "__main__":
    unittest.main()
