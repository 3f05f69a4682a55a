"""Point 10: rows of the same shape, and ranked rows."""

import itertools
import unittest

from nearloops.errors import BadNumber, BadRow, BadTolerance
from nearloops.rows import ranked, same_shape
from nearloops.runs import run
from tests.helpers import MOST, NearCase
from tests.reference import few_numbers, random_pairs

SMALL = [(list(row), tolerance) for tolerance in (1, 2, 3) for count in range(3)
         for row in itertools.product(range(-3, 4), repeat=count)]


def split(row, tolerance):
    """Return the cells and the rests of a row."""
    return [x // tolerance for x in row], [x % tolerance for x in row]


def have_same_shape(row, tolerance, other, other_tolerance):
    """Tell whether two rows have the same shape, as point 10 tells it."""
    cells, rests = split(row, tolerance)
    other_cells, other_rests = split(other, other_tolerance)
    if len(row) != len(other):
        return False
    many = range(len(row))
    return (all(other_cells[k] - cells[k] == other_cells[0] - cells[0] for k in many)
            and all((rests[k] < rests[j]) == (other_rests[k] < other_rests[j]) for k in many for j in many))


class RankedTest(NearCase):
    def test_rests_are_numbered_in_ascending_order(self):
        self.assertEqual(ranked([7, 0, -3, 12, 7], 5), ([3, 0, -1, 5, 3], 2))
        self.assertEqual(ranked([9, 0, 4, 12], 10), ([3, 0, 2, 5], 4))
        self.assertEqual(ranked([9, 9, -1], 10), ([0, 0, -1], 1))
        self.assertEqual(ranked([8, 9, -1], 10), ([0, 1, -1], 2))

    def test_no_numbers_and_one_number(self):
        for tolerance in [1, 2, 99, MOST]:
            self.assertEqual(ranked([], tolerance), ([], 1))
            self.assertEqual(ranked((), tolerance), ([], 1))
        self.assertEqual(ranked([7], 5), ([1], 1))
        self.assertEqual(ranked([-1], 5), ([-1], 1))
        self.assertEqual(ranked([4], 5), ([0], 1))

    def test_with_tolerance_one_a_row_is_ranked(self):
        for row in [[], [0], [5, -7, 5], list(range(-500, 500))]:
            self.assertEqual(ranked(row, 1), (row, 1))

    def test_a_ranked_row_has_the_same_cells_and_the_same_shape(self):
        for row, tolerance in SMALL + list(few_numbers(3, 1)):
            found, many = ranked(row, tolerance)
            cells, rests = split(found, many)
            self.assertEqual(cells, split(row, tolerance)[0])
            self.assertEqual(sorted(set(rests)), list(range(many)) if row else [])
            self.assertTrue(have_same_shape(row, tolerance, found, many), (row, tolerance))
            self.assertEqual(ranked(found, many), (found, many))

    def test_there_is_one_ranked_row_with_these_cells_and_this_shape(self):
        for row, tolerance in SMALL[::7]:
            others = [pair for pair in SMALL if ranked(*pair) == pair and split(*pair)[0] == split(row, tolerance)[0]
                      and have_same_shape(row, tolerance, *pair)]
            self.assertEqual(others, [ranked(row, tolerance)])

    def test_numbers_of_thirty_digits(self):
        self.assertEqual(ranked([MOST, -MOST, 0, 1], MOST), ([2, -2, 0, 1], 2))
        self.assertEqual(ranked([MOST, -MOST], 1), ([MOST, -MOST], 1))
        row = [(-1) ** k * (MOST - k) for k in range(1000)]
        for tolerance in [1, 2, 999, 1000, 1001, 10 ** 15, MOST - 7, MOST]:
            found, many = ranked(row, tolerance)
            self.assertEqual((len(found), many), (1000, len({x % tolerance for x in row})))
            self.assertTrue(have_same_shape(row[::9], tolerance, found[::9], many))
            self.assertLessEqual(max(abs(x) for x in found), MOST)

    def test_a_new_list_is_returned(self):
        row = [0, 1, 2]
        found, _ = ranked(row, 3)
        self.assertEqual(found, row)
        self.assertIsNot(found, row)
        self.assertIsNot(found, ranked(row, 3)[0])
        found.append(9)
        self.assertEqual((row, ranked(row, 3)), ([0, 1, 2], ([0, 1, 2], 3)))
        self.assertEqual([type(thing) for thing in ranked((0, 1), 3)], [list, int])
        self.assertIsInstance(ranked(row, 3), tuple)

    def test_names_of_arguments(self):
        self.assertEqual(ranked(tolerance=5, row=[7]), ([1], 1))


class SameShapeTest(NearCase):
    def test_examples(self):
        self.assertIs(same_shape([0, 7], 5, [10, 13], 2), True)
        self.assertIs(same_shape([0, 7], 5, [10, 14], 2), False)
        self.assertIs(same_shape([0, 7], 5, [10, 12], 2), False)
        self.assertIs(same_shape([0, 5], 5, [10, 13], 2), False)

    def test_small_rows_have_the_same_shape_as_the_document_tells_it(self):
        seen = {True: 0, False: 0}
        for one in SMALL[::3]:
            for other in SMALL[::5]:
                expected = have_same_shape(*one, *other)
                seen[expected] += 1
                self.assertIs(same_shape(*one, *other), expected, (one, other))
        self.assertGreater(min(seen.values()), 100)

    def test_rows_of_three_numbers(self):
        rows = list(few_numbers(3, 1))[::29]
        for one in rows:
            for other in rows:
                self.assertIs(same_shape(*one, *other), have_same_shape(*one, *other), (one, other))

    def test_lengths(self):
        self.assertIs(same_shape([], 1, [], 9), True)
        self.assertIs(same_shape((), 1, [], 9), True)
        self.assertIs(same_shape([], 1, [0], 1), False)
        self.assertIs(same_shape([0, 0], 1, [0], 1), False)
        self.assertIs(same_shape([5], 3, (-MOST,), MOST), True)
        self.assertIs(same_shape([5] * 1000, 3, [7] * 1000, 1), True)
        self.assertIs(same_shape([5] * 1000, 3, [7] * 999 + [8], 1), False)

    def test_cells_may_all_be_shifted(self):
        self.assertIs(same_shape([0, 3, -4], 3, [30, 33, 26], 3), True)
        self.assertIs(same_shape([0, 3, -4], 3, [30, 33, 23], 3), False)
        self.assertIs(same_shape([MOST, 0], 1, [0, -MOST], 1), True)
        self.assertIs(same_shape([MOST, 0], 1, [0, 1 - MOST], 1), False)

    def test_each_loop_does_the_same_on_rows_of_the_same_shape(self):
        rows = list(few_numbers(3, 1))[::41]
        for loop, _ in random_pairs(10, 25):
            for row, tolerance in rows:
                found, many = ranked(row, tolerance)
                shifted = [x + 6 * many for x in found]
                results = [run(loop, *pair) for pair in [(row, tolerance), (found, many), (shifted, many)]]
                for other in results[1:]:
                    self.assertEqual(other.words, results[0].words)
                    self.assertEqual(other.keeps, results[0].keeps)
                    self.assertEqual(other.answer, results[0].answer)

    def test_names_of_arguments(self):
        self.assertIs(same_shape(other_tolerance=2, other=[10, 13], tolerance=5, row=[0, 7]), True)

    def test_arguments_stay_as_they_were(self):
        row, other = [3, 1], [9, 2]
        same_shape(row, 2, other, 2)
        ranked(row, 2)
        self.assertEqual((row, other), ([3, 1], [9, 2]))


class OrderOfErrorsTest(NearCase):
    def test_the_first_row_and_tolerance_come_before_the_others(self):
        self.assertRaises(BadRow, same_shape, None, 0, [True], 0)
        self.assertFails(BadNumber, "x", same_shape, ["x"], 0, None, 0)
        self.assertFails(BadTolerance, 0, same_shape, [1], 0, None, -1)
        self.assertRaises(BadRow, same_shape, [1], 1, None, -1)
        self.assertFails(BadNumber, True, same_shape, [1], 1, [1, True], -1)
        self.assertFails(BadTolerance, -1, same_shape, [1], 1, [1, 2], -1)


if __name__ == "__main__":
    unittest.main()
