"""Point 23: the known loops."""

import random
import unittest

from nearloops.known import cells, chain, leader, peak
from nearloops.loops import Loop
from nearloops.runs import run
from tests.helpers import KNOWN_TEXTS, MOST

LOOPS = {"leader": leader, "chain": chain, "cells": cells, "peak": peak}
LINES = {
    "leader": ["seek none far: new keep -> seek"],
    "chain": ["seek none far: new keep -> seek", "seek near: join keep -> seek"],
    "cells": ["seek cell: pass pass -> seek", "seek none any: new keep -> seek"],
    "peak": ["seek none: new keep -> seek", "seek more: rise keep -> seek", "seek under: fall pass -> fell",
             "fell more: rise keep -> fell", "fell under: fall pass -> fell", "answer fell fell"],
}


def told_in_words(name, row, e):
    """Return the words and the kept numbers, and whether a number fell, as point 23 says it in words."""
    words, kept, fell = [], [], False
    for x in row:
        word, keeps = "pass", False
        if not kept:
            word, keeps = "new", True
        elif name == "leader":
            word, keeps = ("new", True) if abs(x - kept[-1]) > e else ("pass", False)
        elif name == "chain":
            word, keeps = ("new" if abs(x - kept[-1]) > e else "join"), True
        elif name == "cells":
            word, keeps = ("new", True) if x // e != kept[-1] // e else ("pass", False)
        elif x > kept[-1]:
            word, keeps = "rise", True
        elif kept[-1] - x > e:
            word, fell = "fall", True
        words.append(word)
        kept += [x] if keeps else []
    return tuple(words), tuple(kept), fell


class KnownTest(unittest.TestCase):
    def test_texts_line_by_line(self):
        for name, make in LOOPS.items():
            self.assertEqual(make().text().split("\n"), LINES[name])
            self.assertEqual(make(), Loop.parse(KNOWN_TEXTS[name]))

    def test_each_call_gives_the_loop(self):
        for make in LOOPS.values():
            first, second = make(), make()
            self.assertIsInstance(first, Loop)
            self.assertEqual(first, second)
            first.answers["seek"] = "odd"
            self.assertEqual(make(), second)
            self.assertEqual(first, second)

    def test_states_and_answers(self):
        for name in ["leader", "chain", "cells"]:
            self.assertEqual([LOOPS[name]().states, LOOPS[name]().answers], [("seek",), {"seek": ""}])
        self.assertEqual([peak().states, peak().answers], [("seek", "fell"), {"seek": "", "fell": "fell"}])
        self.assertEqual([len(make()) for make in LOOPS.values()], [1, 2, 2, 5])

    def test_they_differ_from_one_another(self):
        made = [make() for make in LOOPS.values()]
        self.assertEqual([one == other for one in made for other in made],
                         [k == n for k in range(4) for n in range(4)])

    def check(self, name, row, e):
        """Check a run against the words of the document."""
        told = run(LOOPS[name](), row, e)
        words, kept, fell = told_in_words(name, row, e)
        self.assertEqual((told.words, told.kept), (words, kept), (name, row, e))
        self.assertEqual(told.keeps, tuple(word not in ("pass", "fall") for word in words))
        self.assertEqual(told.answer, "fell" if name == "peak" and fell else "")

    def test_they_do_what_the_document_says_in_words(self):
        source = random.Random(31)
        for _ in range(300):
            e = source.randint(1, 6)
            row = [source.randint(-3 * e, 3 * e) for _ in range(source.randint(0, 12))]
            for name in LOOPS:
                self.check(name, row, e)

    def test_numbers_that_differ_by_just_the_tolerance(self):
        for e in [1, 2, 5, 10 ** 29]:
            for first in [0, 1, -1, e - 1, -e, 3 * e + 1]:
                for change in [-2 * e, -e - 1, -e, 1 - e, -1, 0, 1, e - 1, e, e + 1, 2 * e]:
                    for name in LOOPS:
                        self.check(name, [first, first + change, first], e)

    def test_numbers_of_thirty_digits(self):
        for name in LOOPS:
            self.check(name, [MOST, -MOST, 0, MOST], MOST)
            self.check(name, [MOST, MOST - 1, MOST - 2], 1)

    def test_the_first_number_is_new_and_kept(self):
        for make in LOOPS.values():
            told = run(make(), [7], 3)
            self.assertEqual([told.words, told.kept, told.answer], [("new",), (7,), ""])
            self.assertEqual([run(make(), [], 3).words, run(make(), [], 3).last], [(), None])

    def test_the_answer_stays_after_a_fall(self):
        self.assertEqual(run(peak(), [5, 9, 6], 3).answer, "")
        told = run(peak(), [5, 9, 5, 20, 20, 19], 3)
        self.assertEqual(told.words, ("new", "rise", "fall", "rise", "pass", "pass"))
        self.assertEqual([told.kept, told.answer], [(5, 9, 20), "fell"])


if __name__ == "__main__":
    unittest.main()
