"""Points 2, 6, 7 and 9: rows, and runs of loops on them."""

import unittest

from nearloops.errors import BadNumber, BadRow, BadTolerance
from nearloops.loops import Loop
from nearloops.rows import ranked, same_shape
from nearloops.joints import joint
from nearloops.runs import Run, run
from tests.helpers import CHAIN, LEADER, MOST, NO_INTEGERS, NO_ROWS, PEAK, EqualToAll, NearCase, Unequal
from tests.reference import few_numbers, random_pairs, told

NAMES = ["words", "keeps", "kept", "last", "state", "answer"]


def fields(run_told):
    """Return what a run tells, in a list."""
    return [getattr(run_told, name) for name in NAMES]


class RunTest(NearCase):
    def test_leader_keeps_what_is_far_from_the_kept_number(self):
        result = run(LEADER, [0, 3, 4, 9, 7], 3)
        words = ("new", "pass", "new", "new", "pass")
        self.assertEqual(fields(result), [words, (True, False, True, True, False), (0, 4, 9), 9, "seek", ""])
        self.assertEqual(len(result), 5)

    def test_chain_keeps_every_number(self):
        result = run(CHAIN, [0, 3, 6, 9, 13, 12], 3)
        words = ("new", "join", "join", "join", "new", "join")
        self.assertEqual(fields(result), [words, (True,) * 6, (0, 3, 6, 9, 13, 12), 12, "seek", ""])

    def test_the_state_and_its_answer_stay_after_a_fall(self):
        self.assertEqual(fields(run(PEAK, [4, 9, 7], 2))[3:], [9, "seek", ""])
        self.assertEqual(fields(run(PEAK, [4, 9, 6], 2))[3:], [9, "fell", "fell"])
        result = run(PEAK, [4, 9, 6, 12, 12], 2)
        self.assertEqual(result.words, ("new", "rise", "fall", "rise", "pass"))
        self.assertEqual(fields(result)[2:], [(4, 9, 12), 12, "fell", "fell"])

    def test_a_row_of_no_numbers(self):
        loop = Loop([("b", ("any",), "x", True, "a"), ("a", ("none",), "y", True, "b")], {"b": "start", "a": "other"})
        for row in [[], ()]:
            result = run(loop, row, 7)
            self.assertEqual(fields(result), [(), (), (), None, "b", "start"])
            self.assertEqual(len(result), 0)

    def test_the_first_number_has_no_place(self):
        loop = Loop([("a", ("any",), "seen", True, "b"), ("b", ("none",), "lone", True, "a")])
        self.assertEqual(fields(run(loop, [5], 1)), [("pass",), (False,), (), None, "a", ""])
        loop = Loop([("a", ("any",), "seen", False, "b"), ("a", ("none",), "lone", False, "b")])
        self.assertEqual(fields(run(loop, [5], 1)), [("lone",), (False,), (), None, "b", ""])
        # Without a kept number the second number has no place, either.
        self.assertEqual(fields(run(loop, [5, 5], 1)), [("lone", "pass"), (False, False), (), None, "b", ""])

    def test_where_no_rule_fits_nothing_changes(self):
        loop = Loop([("a", ("none",), "new", True, "b"), ("b", ("=",), "same", False, "a")])
        result = run(loop, [5, 6, 4, 5, 5, 99], 2)
        words = ("new", "pass", "pass", "same", "pass", "pass")
        self.assertEqual(fields(result), [words, (True,) + (False,) * 5, (5,), 5, "a", ""])

    def test_the_first_rule_that_fits_is_used(self):
        loop = Loop([
            ("a", ("none", "over"), "one", True, "a"),
            ("a", ("near", "more"), "two", False, "a"),
            ("a", ("any",), "three", False, "a"),
            ("a", ("any", "none"), "four", True, "a"),
        ])
        self.assertEqual(run(loop, [0, 3, 4, 4, 2, 1], 3).words, ("one", "two", "one", "two", "two", "two"))
        self.assertEqual(run(loop, [0, -3, -4], 3).words, ("one", "two", "three"))

    def test_places_are_at_the_last_kept_number(self):
        loop = Loop([
            ("a", ("none", "+="), "up", True, "a"),
            ("a", ("=",), "same", False, "a"),
            ("a", ("any",), "else", False, "a"),
        ])
        result = run(loop, [1, 6, 11, 6, 11, 16], 5)
        self.assertEqual(result.words, ("up", "up", "up", "else", "same", "up"))
        self.assertEqual(result.kept, (1, 6, 11, 16))

    def test_equal_numbers(self):
        self.assertEqual(run(CHAIN, [4, 4, 4], 1).words, ("new", "join", "join"))
        self.assertEqual(run(LEADER, [4, 4, 4], 1).kept, (4,))
        self.assertEqual(run(CHAIN, [4, 4, 4], 1).kept, (4, 4, 4))

    def test_small_runs_are_those_of_the_document(self):
        rows = list(few_numbers(2)) + [([1, 4, -2, 4, 9, 8, 1, 0, -7], tolerance) for tolerance in range(1, 7)]
        for one, other in random_pairs(9, 40):
            for row, tolerance in rows:
                for loop in (one, other):
                    words, keeps, last, state, answer = told(loop, row, tolerance)
                    kept = tuple(x for x, keep in zip(row, keeps) if keep)
                    expected = [tuple(words), tuple(keeps), kept, last, state, answer]
                    self.assertEqual(fields(run(loop, row, tolerance)), expected, (loop.text(), row, tolerance))

    def test_all_is_told_in_tuples(self):
        result = run(CHAIN, [0, 9], 1)
        self.assertEqual([type(thing) for thing in fields(result)[:3]], [tuple] * 3)
        self.assertEqual([type(keep) for keep in result.keeps], [bool, bool])

    def test_a_thousand_numbers_of_thirty_digits(self):
        row = [MOST, -MOST] * 500
        result = run(LEADER, row, MOST)
        self.assertEqual((len(result), result.kept, result.words), (1000, tuple(row), ("new",) * 1000))
        self.assertEqual(run(LEADER, [MOST, 0, -1, MOST], MOST).kept, (MOST, -1, MOST))
        self.assertEqual(len(run(LEADER, [-MOST] * 1000, 1).kept), 1)

    def test_lists_and_tuples_and_names_of_arguments(self):
        self.assertEqual(run(LEADER, (0, 4), 3), run(tolerance=3, row=[0, 4], loop=LEADER))
        self.assertIsInstance(run(LEADER, (0, 4), 3), Run)

    def test_arguments_stay_as_they_were(self):
        row = [3, 1, 2]
        result = run(CHAIN, row, 1)
        self.assertEqual(row, [3, 1, 2])
        row.append(9)
        self.assertEqual(result.kept, (3, 1, 2))


class EqualTest(unittest.TestCase):
    def test_equal_runs(self):
        one = run(LEADER, [0, 3, 9], 3)
        other = run(Loop(LEADER.rules), (0, 3, 9), 3)
        self.assertTrue(one == other)
        self.assertFalse(one != other)
        # All numbers that a run keeps count, but not the tolerance and what it does not keep.
        self.assertTrue(one == run(LEADER, [0, -1, 9], 4))

    def test_runs_that_differ_in_one_thing(self):
        def made(word="x", keeps=True, later="a", answer="p"):
            loop = Loop([("a", ("any", "none"), word, keeps, later)], {later: answer})
            return run(loop, [5], 1)
        pairs = [
            (made(), made(word="y")),
            (made(keeps=False), made(keeps=True)),
            (made(later="a"), made(later="b")),
            (made(answer="p"), made(answer="q")),
            (run(CHAIN, [5], 1), run(CHAIN, [6], 1)),
            (run(CHAIN, [5, 6, 7], 1), run(CHAIN, [5, 5, 7], 1)),
            (run(CHAIN, [5], 1), run(CHAIN, [5, 5], 1)),
            (run(CHAIN, [], 1), run(PEAK, [5], 1)),
        ]
        for one, other in pairs:
            self.assertFalse(one == other)
            self.assertTrue(one != other)

    def test_the_same_last_number_after_other_kept_ones(self):
        one, other = run(CHAIN, [5, 6, 7], 9), run(CHAIN, [5, 5, 7], 9)
        self.assertEqual((one.words, one.keeps, one.last), (other.words, other.keeps, other.last))
        self.assertFalse(one == other)

    def test_the_same_kept_numbers_at_other_indexes(self):
        one = run(Loop([("a", ("none",), "x", True, "b"), ("b", ("any",), "x", False, "c")]), [5, 5], 1)
        other = run(Loop([("a", ("none",), "x", False, "b"), ("b", ("none",), "x", True, "c")]), [5, 5], 1)
        self.assertEqual((one.words, one.kept, one.state), (other.words, other.kept, other.state))
        self.assertFalse(one == other)

    def test_the_same_words_with_other_keeps(self):
        one = Loop([("a", ("none",), "x", True, "a"), ("a", ("any",), "x", True, "a")])
        other = Loop([("a", ("none",), "x", True, "a"), ("a", ("any",), "x", False, "a")])
        self.assertEqual(run(one, [5, 5], 1).last, run(other, [5, 5], 1).last)
        self.assertFalse(run(one, [5, 5], 1) == run(other, [5, 5], 1))

    def test_other_kinds(self):
        result = run(CHAIN, [5], 1)
        for thing in [None, 1, True, fields(result), tuple(fields(result)), ("new",), CHAIN, object(), EqualToAll()]:
            self.assertFalse(result == thing)
            self.assertTrue(result != thing)


class RowErrorsTest(NearCase):
    """What a row and a tolerance are, for each function that takes them."""

    CALLS = [
        lambda row, tolerance: run(LEADER, row, tolerance),
        lambda row, tolerance: ranked(row, tolerance),
        lambda row, tolerance: same_shape(row, tolerance, [], 1),
        lambda row, tolerance: same_shape([], 1, row, tolerance),
        lambda row, tolerance: joint(LEADER, CHAIN, row, tolerance),
    ]

    def assertNoRow(self, call, row, tolerance):
        with self.assertRaises(BadRow) as caught:
            call(row, tolerance)
        self.assertIs(type(caught.exception), BadRow)

    def test_what_is_no_row(self):
        for call in self.CALLS:
            for thing in NO_ROWS:
                self.assertNoRow(call, thing, 1)
            self.assertNoRow(call, Unequal(), 1)
            self.assertNoRow(call, (x for x in [1]), 1)

    def test_rows_have_at_most_a_thousand_items(self):
        for call in self.CALLS:
            for kind in (list, tuple):
                call(kind([7] * 1000), 1)
                self.assertNoRow(call, kind([7] * 1001), 1)
                self.assertNoRow(call, kind([None] * 1001), 1)

    def test_the_first_item_that_is_no_number_is_named(self):
        for call in self.CALLS:
            for thing in NO_INTEGERS + [MOST + 1, -MOST - 1, 10 ** 5000]:
                self.assertFails(BadNumber, thing, call, [thing], 1)
                self.assertFails(BadNumber, thing, call, (0, MOST, -MOST, thing, "x", None), 1)
                self.assertFails(BadNumber, thing, call, [0] * 999 + [thing], 1)
            odd = Unequal()
            self.assertFails(BadNumber, odd, call, [odd], 1)

    def test_what_is_no_tolerance(self):
        for call in self.CALLS:
            for row in [[], [1, 2]]:
                for thing in NO_INTEGERS + [0, -1, MOST + 1, -MOST, 10 ** 5000, Unequal()]:
                    self.assertFails(BadTolerance, thing, call, row, thing)
                for tolerance in [1, MOST]:
                    call(row, tolerance)

    def test_a_row_comes_before_its_numbers_and_these_before_the_tolerance(self):
        for call in self.CALLS:
            self.assertNoRow(call, ["x"] * 1001, 0)
            self.assertNoRow(call, None, None)
            self.assertFails(BadNumber, True, call, [0, True, None], 0)
            self.assertFails(BadTolerance, 0, call, [], 0)


if __name__ == "__main__":
    unittest.main()
