"""The examples of the document, word for word."""

import doctest
import pathlib
import unittest

DOCUMENT = pathlib.Path(__file__).resolve().parent.parent.parent / "shared" / "DOC.md"
EXAMPLES = [
    """
>>> from nearloops.places import place, turned, group
>>> [place(7, 0, 5), place(5, 0, 5), place(-1, 0, 5), place(-6, 0, 5), place(10, 4, 5)]
['+>', '+=', '->', 'below', 'above']
""",
    """
>>> from nearloops.places import place, turned, group
>>> [turned('+>'), turned('->'), turned('below'), group('over'), group('none')]
['-<', '+<', 'above', ('+>', 'above'), ()]
""",
    r"""
>>> from nearloops.loops import Loop
>>> loop = Loop.parse("a none far: new keep -> a\na -< near: old pass -> b\nb any: end pass -> b\nanswer b seen")
>>> [loop.states, loop.start, loop.answers, len(loop), loop.fitting("a", "-<"), loop.fitting("b", "none")]
[('a', 'b'), 'a', {'a': '', 'b': 'seen'}, 3, 0, None]
""",
    """
>>> from nearloops.loops import Loop
>>> from nearloops.runs import run
>>> told = run(Loop.parse("a none far: new keep -> a"), [0, 3, 4, 9, 7], 3)
>>> [told.words, told.kept, told.last, told.state, told.answer]
[('new', 'pass', 'new', 'new', 'pass'), (0, 4, 9), 9, 'a', '']
""",
    """
>>> from nearloops.rows import ranked, same_shape
>>> [ranked([7, 0, -3, 12, 7], 5), same_shape([0, 7], 5, [10, 13], 2)]
[([3, 0, -1, 5, 3], 2), True]
""",
    """
>>> from nearloops.joints import joint
>>> from nearloops.known import chain, leader
>>> [joint(leader(), chain(), [0, 5, 3], 3), joint(leader(), chain(), [], 1)]
[('seek', 'seek', (0, '<')), ('seek', 'seek', 'none')]
""",
    """
>>> from nearloops.joints import leads, way
>>> from nearloops.known import chain, leader
>>> [leads(leader(), chain(), ("seek", "seek", (0, "<")), ("seek", "seek", (1, "="))), way(leader(), chain(), ("seek", "seek", (3, "=")))]
[True, None]
""",
    """
>>> from nearloops.excursions import excursions
>>> from nearloops.known import chain, leader
>>> from nearloops.loops import Loop
>>> walker = Loop.parse("a none near: go keep -> a")
>>> stone = Loop.parse("b none: lie keep -> b")
>>> [excursions(leader(), chain())[0], len(excursions(leader(), chain())), len(excursions(stone, walker))]
[(('seek', 'seek', '<'), ('seek', 'seek', '<')), 3, 9]
""",
    """
>>> from nearloops.known import cells, leader
>>> from nearloops.papers import is_paper, paper
>>> [is_paper(leader(), leader(), paper(leader(), leader())), paper(leader(), cells())]
[True, None]
""",
    """
>>> from nearloops.known import leader
>>> from nearloops.papers import Table, is_paper
>>> table = Table([("a", "b", "none")], [[], [("a", "b", "=")], []], 1, 1)
>>> [("a", "b", (0, "=")) in table, ("a", "b", (0, "<")) in table, table.level(7), is_paper(leader(), leader(), table)]
[True, False, (), False]
""",
    """
>>> from nearloops.known import cells, chain, leader
>>> from nearloops.partings import parting, same
>>> [same(leader(), leader()), same(leader(), chain(), "answers"), len(parting(leader(), cells())[0])]
[True, True, 2]
""",
    """
>>> from nearloops.known import chain, leader
>>> from nearloops.watches import apart, covered, rings
>>> [rings(leader(), covered("new")), len(rings(leader(), apart("new"))[0]), len(rings(chain(), covered("new"))[0])]
[None, 3, 3]
""",
    """
>>> from nearloops.known import leader
>>> from nearloops.watches import apart, watched
>>> watch = apart("new")
>>> watched(leader(), watch, [0, 2, 0], 1, 0) in watch.alarms
True
""",
    """
>>> from nearloops.again import again
>>> from nearloops.known import chain, leader
>>> row, tolerance = again(chain(), ["new"])
>>> [again(leader(), ["new"]), len(row)]
[None, 3]
""",
    """
>>> from nearloops.known import leader, peak
>>> from nearloops.orders import order, repeats
>>> [order(leader()), repeats(peak()), len(order(peak())[0])]
[None, None, 2]
""",
    r"""
>>> from nearloops.kinds import kinds, met
>>> from nearloops.loops import Loop
>>> loop = Loop.parse("a none: new keep -> b\nb near: old pass -> c\nc near: old pass -> b\nc far: new keep -> c\nb far: new keep -> b")
>>> [met(loop), kinds(loop)]
[('b', 'c'), [['b', 'c']]]
""",
]


class ExamplesTest(unittest.TestCase):
    def test_examples(self):
        for number, example in enumerate(EXAMPLES, start=1):
            with self.subTest(number):
                test = doctest.DocTestParser().get_doctest(example, {}, f"example {number}", None, 0)
                told = []
                result = doctest.DocTestRunner(verbose=False).run(test, out=told.append)
                self.assertEqual((result.failed, "".join(told)), (0, ""))
                self.assertGreaterEqual(result.attempted, 2)

    @unittest.skipUnless(DOCUMENT.exists(), "the document is not here")
    def test_these_are_all_examples_of_the_document(self):
        parts = DOCUMENT.read_text("utf-8").split("\n\n")
        self.assertEqual([part.strip() for part in parts if part.strip().startswith(">>>")],
                         [example.strip() for example in EXAMPLES])


if __name__ == "__main__":
    unittest.main()
