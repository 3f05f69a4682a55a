"""The examples of the document, word for word."""

import doctest
import unittest

EXAMPLES = [
    """
>>> from nearloops.places import place, turned, group
>>> [place(7, 0, 5), place(5, 0, 5), place(-1, 0, 5), place(-6, 0, 5), place(10, 4, 5)]
['+>', '+=', '->', 'below', 'above']
""",
    """
>>> from nearloops.places import place, turned, group
>>> [turned('+>'), turned('->'), turned('below'), group('over'), group('none')]
['-<', '+<', 'above', ('+>', 'above'), ()]
""",
    r"""
>>> from nearloops.loops import Loop
>>> loop = Loop.parse("a none far: new keep -> a\na -< near: old pass -> b\nb any: end pass -> b\nanswer b seen")
>>> [loop.states, loop.start, loop.answers, len(loop), loop.fitting("a", "-<"), loop.fitting("b", "none")]
[('a', 'b'), 'a', {'a': '', 'b': 'seen'}, 3, 0, None]
""",
]


class ExamplesTest(unittest.TestCase):
    def test_examples(self):
        for number, example in enumerate(EXAMPLES, start=1):
            with self.subTest(number):
                test = doctest.DocTestParser().get_doctest(example, {}, f"example {number}", None, 0)
                told = []
                result = doctest.DocTestRunner(verbose=False).run(test, out=told.append)
                self.assertEqual((result.failed, "".join(told)), (0, ""))
                self.assertGreaterEqual(result.attempted, 2)


if __name__ == "__main__":
    unittest.main()
