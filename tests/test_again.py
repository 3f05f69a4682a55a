"""Point 19: loops that are run on what they have picked."""

import random
import unittest

from nearloops.again import again
from nearloops.known import cells, chain, leader, peak
from nearloops.loops import Loop
from tests.helpers import CELLS, CHAIN, LEADER, MOST, PEAK, NearCase
from tests.lone_walks import is_stable, lead_of_again, picks
from tests.reference import few_numbers, random_pairs
from tests.walks import lengths_from, random_rings


class AgainTest(NearCase):
    def check(self, loop, words):
        """Check that a row shows that the loop is not stable; return its length, or None."""
        found = again(loop, words)
        if found is None:
            return None
        self.assertEqual([type(found), len(found)], [tuple, 2])
        row, tolerance = found
        self.assertEqual([type(row), type(tolerance)], [list, int])
        self.assertTrue(1 <= tolerance <= MOST and all(type(x) is int and abs(x) <= MOST for x in row))
        self.assertFalse(is_stable(loop, words, row, tolerance), (loop.text(), words))
        # It is lost at the end: a beginning of it would be a shorter row.
        self.assertTrue(is_stable(loop, words, row[:-1], tolerance))
        return len(row)

    def drawn(self, seed, count):
        """Yield drawn loops with drawn words, some of which they never tell."""
        source = random.Random(seed)
        for pair in [*random_pairs(seed, count), *random_rings(seed, count)]:
            for loop in pair:
                words = sorted({rule[2] for rule in loop.rules} | {"pass", "never"})
                yield loop, source.sample(words, source.randint(0, len(words)))

    def test_example(self):
        row, tolerance = again(chain(), ["new"])
        self.assertEqual([again(leader(), ["new"]), len(row)], [None, 3])

    def test_known_loops(self):
        self.assertEqual([self.check(loop, ["new"]) for loop in (LEADER, CHAIN, CELLS, PEAK)], [None, 3, None, None])
        # What the leader passes would be new on its own.
        self.assertEqual([self.check(loop, ["pass"]) for loop in (LEADER, CELLS, PEAK)], [2, 2, 2])
        self.assertEqual([self.check(CHAIN, ["join"]), self.check(CHAIN, ["new", "join"])], [2, None])
        self.assertEqual([self.check(PEAK, words) for words in (["new", "rise"], ["rise"], ["fall"], ["new", "fall"])],
                         [None, 2, 2, 3])
        for make in (leader, cells, chain, peak):
            self.assertIsNone(again(make(), sorted({rule[2] for rule in make().rules} | {"pass"})))

    def test_no_words(self):
        for loop in [LEADER, CHAIN, CELLS, PEAK]:
            self.assertIsNone(again(loop, []))
            self.assertIsNone(again(loop, ()))

    def test_words_that_are_never_told(self):
        for loop in [LEADER, CHAIN, CELLS, PEAK]:
            self.assertIsNone(again(loop, ["never"]))
            self.assertIsNone(again(loop, ["never", "nor"]))
        self.assertEqual(again(CHAIN, ["never", "new"]), again(CHAIN, ["new"]))

    def test_words_in_any_order_and_twice(self):
        first = again(PEAK, ["new", "fall"])
        for words in [["fall", "new"], ("new", "fall"), ["fall", "new", "fall", "new"]]:
            self.assertEqual(again(PEAK, words), first)

    def test_the_word_pass_where_no_rule_fits(self):
        loop = Loop([("a", ("none",), "new", True, "a")])
        self.assertEqual(self.check(loop, ["pass"]), 2)
        self.assertIsNone(again(loop, ["new", "pass"]))
        silent = Loop([("a", ("any",), "x", True, "a")])
        self.assertIsNone(again(silent, ["pass"]))

    def test_the_first_number(self):
        # Alone the number is told something else for, as the loop is in another state.
        loop = Loop([("a", ("none",), "x", False, "b"), ("b", ("none",), "y", False, "b")])
        self.assertEqual([self.check(loop, words) for words in (["x"], ["y"], ["x", "y"])], [None, 2, None])

    def test_drawn_loops_against_plain_walks(self):
        lengths = {}
        for loop, words in self.drawn(91, 60):
            reached = lengths_from({(loop.start, loop.start, "none"): 0}, lead_of_again(loop, words, 12))
            self.assertEqual(self.check(loop, words), reached.get(None), (loop.text(), words))
            lengths[reached.get(None)] = True
        self.assertTrue({None, 2, 3, 4} <= set(lengths))

    def test_no_row_of_few_numbers_does_it_where_a_longer_one_is_returned(self):
        rows = list(few_numbers(2))
        long = 0
        for loop, words in self.drawn(92, 40):
            length = self.check(loop, words)
            if length is None or length > 2:
                self.assertTrue(all(is_stable(loop, words, row, tolerance) for row, tolerance in rows))
                long += length is not None
        self.assertGreater(long, 5)

    def test_stable_loops_are_stable_on_drawn_rows(self):
        source = random.Random(93)
        for loop, words in [*self.drawn(94, 15), (LEADER, ["new"]), (CELLS, ["new"]), (PEAK, ["new", "rise"])]:
            if again(loop, words) is None:
                for _ in range(30):
                    e = source.randint(1, 4)
                    row = [source.randint(-4 * e, 4 * e) for _ in range(source.randint(0, 10))]
                    self.assertTrue(is_stable(loop, words, row, e), (loop.text(), words, row, e))

    def test_kept_numbers_that_lie_far_apart(self):
        # The loop climbs and picks only its first number and the one behind the last step, which is far from it then.
        names = "abcdef"
        for place in ["+=", "-="]:
            for steps in range(2, 5):
                rules = [("a", ("none",), "pick", True, "b")]
                rules += [(names[k], (place,), "step", True, names[k + 1]) for k in range(1, steps)]
                rules += [(names[steps], (place,), "pick", True, names[steps]), ("b", ("any",), "odd", False, "b")]
                self.assertEqual(self.check(Loop(rules), ["pick"]), steps + 1)
                self.assertEqual(picks(Loop(rules), ["pick"], *again(Loop(rules), ["pick"])),
                                 [again(Loop(rules), ["pick"])[0][0], again(Loop(rules), ["pick"])[0][-1]])

    def test_rounds_of_different_lengths(self):
        # Up by one cell, and one number is picked at the end of each round; what is picked is told apart by far rules.
        names = "abcd"
        lengths = set()
        for many in [2, 3, 4]:
            for place in ["+=", "-=", "+>"]:
                rules = [("a", ("none",), "pick", True, "a")]
                for k in range(many):
                    word = "pick" if k == many - 1 else "step"
                    rules.append((names[k], (place,), word, True, names[(k + 1) % many]))
                    rules.append((names[k], ("far",), "pick", True, "e"))
                    rules.append((names[k], ("any",), "off", False, "f"))
                loop = Loop(rules + [("e", ("above", "below"), "pick", True, "e"), ("e", ("any",), "off", False, "e")])
                reached = lengths_from({(loop.start, loop.start, "none"): 0}, lead_of_again(loop, ["pick"], 14))
                self.assertEqual(self.check(loop, ["pick"]), reached.get(None))
                lengths.add(reached.get(None))
        self.assertNotIn(None, lengths)

    def test_equal_arguments_give_equal_values_and_new_lists(self):
        words = ["new"]
        first, second = again(CHAIN, words), again(words=("new",), loop=Loop.parse(CHAIN.text()))
        self.assertEqual(first, second)
        first[0].append(7)
        self.assertEqual(again(CHAIN, words), second)
        self.assertEqual(words, ["new"])


if __name__ == "__main__":
    unittest.main()
