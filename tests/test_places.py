"""Points 1 to 5: numbers, tolerances, places and groups."""

import unittest

from nearloops.errors import BadGroup, BadNumber, BadTolerance
from nearloops.places import PLACES, group, place, turned
from tests.helpers import MOST, NO_INTEGERS, EqualToAll, NearCase, Unequal


def cell_of(number, tolerance):
    """Return the cell of a number by counting, without a division."""
    cell = 0
    while number < cell * tolerance:
        cell -= 1
    while number >= (cell + 1) * tolerance:
        cell += 1
    return cell


def place_of(x, kept, tolerance):
    """Return the place as point 4 tells it."""
    d = cell_of(x, tolerance) - cell_of(kept, tolerance)
    if d <= -2:
        return "below"
    if d >= 2:
        return "above"
    rest = x - cell_of(x, tolerance) * tolerance
    kept_rest = kept - cell_of(kept, tolerance) * tolerance
    sign = "<" if rest < kept_rest else "=" if rest == kept_rest else ">"
    return {-1: "-", 0: "", 1: "+"}[d] + sign


def small_cases():
    """Yield many triples of a number, a kept number and a tolerance."""
    for tolerance in range(1, 6):
        for kept in range(-7, 8):
            for x in range(-20, 21):
                yield x, kept, tolerance


class PlaceTest(NearCase):
    def test_there_are_eleven_places_in_ascending_order(self):
        self.assertIsInstance(PLACES, tuple)
        self.assertEqual(
            PLACES,
            ("below", "-<", "-=", "->", "<", "=", ">", "+<", "+=", "+>", "above"),
        )

    def test_small_numbers_have_the_place_of_the_document(self):
        for x, kept, tolerance in small_cases():
            expected = place_of(x, kept, tolerance)
            self.assertEqual(place(x, kept, tolerance), expected, (x, kept, tolerance))

    def test_all_eleven_places_occur(self):
        # With the tolerance 3, 4 has the cell 1 and the rest 1.
        numbers = [-1, 0, 1, 2, 3, 4, 5, 6, 7, 8, 9]
        self.assertEqual(tuple(place(x, 4, 3) for x in numbers), PLACES)
        # -5 has the cell -2 and the rest 1.
        numbers = [-10, -9, -8, -7, -6, -5, -4, -3, -2, -1, 0]
        self.assertEqual(tuple(place(x, -5, 3) for x in numbers), PLACES)

    def test_places_ascend_with_the_number(self):
        for tolerance in range(1, 6):
            for kept in range(-7, 8):
                at = [PLACES.index(place(x, kept, tolerance)) for x in range(-25, 26)]
                self.assertEqual(at, sorted(at))

    def test_cells_of_negative_numbers_are_rounded_down(self):
        self.assertEqual(place(-1, 0, 5), "->")
        self.assertEqual(place(-5, 0, 5), "-=")
        self.assertEqual(place(-6, -1, 5), "-=")
        self.assertEqual(place(-7, -1, 5), "-<")
        self.assertEqual(place(0, -1, 5), "+<")
        self.assertEqual(place(-1, -5, 5), ">")

    def test_with_tolerance_one_all_rests_are_equal(self):
        places = [place(x, 0, 1) for x in range(-3, 4)]
        self.assertEqual(places, ["below", "below", "-=", "=", "+=", "above", "above"])

    def test_numbers_of_thirty_digits(self):
        self.assertEqual(place(MOST, MOST, MOST), "=")
        self.assertEqual(place(MOST, 0, MOST), "+=")
        self.assertEqual(place(MOST - 1, 0, MOST), ">")
        self.assertEqual(place(-1, 0, MOST), "->")
        self.assertEqual(place(-MOST, 0, MOST), "-=")
        self.assertEqual(place(-MOST, 1, MOST), "-<")
        self.assertEqual(place(-MOST, MOST, MOST), "below")
        self.assertEqual(place(MOST, -MOST, MOST), "above")
        self.assertEqual(place(MOST, MOST - 1, 1), "+=")
        self.assertEqual(place(-MOST, MOST, 1), "below")
        self.assertEqual(place(MOST, MOST - 1, 2), ">")
        self.assertEqual(place(MOST - 1, MOST - 2, 2), "+<")
        self.assertEqual(place(-MOST, 1 - MOST, 2), "->")

    def test_numbers_of_thirty_one_digits(self):
        for number in [MOST + 1, -MOST - 1, 10 ** 5000]:
            self.assertFails(BadNumber, number, place, number, 0, 1)
            self.assertFails(BadNumber, number, place, 0, number, 1)
        for tolerance in [MOST + 1, -MOST - 1, 10 ** 5000]:
            self.assertFails(BadTolerance, tolerance, place, 0, 0, tolerance)

    def test_what_is_no_integer_is_no_number(self):
        for thing in NO_INTEGERS:
            self.assertFails(BadNumber, thing, place, thing, 0, 1)
            self.assertFails(BadNumber, thing, place, 0, thing, 1)
            self.assertFails(BadTolerance, thing, place, 0, 0, thing)
        odd = Unequal()
        self.assertFails(BadNumber, odd, place, odd, 0, 1)
        self.assertFails(BadTolerance, odd, place, 0, 0, odd)

    def test_tolerances_begin_at_one(self):
        self.assertEqual(place(0, 0, 1), "=")
        for tolerance in [0, -1, -MOST]:
            self.assertFails(BadTolerance, tolerance, place, 0, 0, tolerance)

    def test_the_first_wrong_argument_is_named(self):
        self.assertFails(BadNumber, True, place, True, False, 0)
        self.assertFails(BadNumber, False, place, 0, False, 0)
        self.assertFails(BadNumber, "x", place, "x", 0, 0)
        self.assertFails(BadTolerance, 0, place, 0, 0, 0)

    def test_arguments_have_names(self):
        self.assertEqual(place(tolerance=5, kept=0, x=7), "+>")
        self.assertEqual(turned(place="->"), "+<")
        self.assertEqual(group(name="over"), ("+>", "above"))


class TurnedTest(NearCase):
    def test_turned_is_the_place_of_the_other_number(self):
        for x, kept, tolerance in small_cases():
            self.assertEqual(turned(place(x, kept, tolerance)), place(kept, x, tolerance))

    def test_each_place(self):
        pairs = [("below", "above"), ("-<", "+>"), ("-=", "+="), ("->", "+<"), ("<", ">"), ("=", "=")]
        for one, other in pairs:
            self.assertEqual((turned(one), turned(other)), (other, one))

    def test_what_is_no_place(self):
        for thing in ["none", "any", "near", "cell", "", "= ", "=>", "- <", None, True, 0, ["="], {}]:
            self.assertFails(BadGroup, thing, turned, thing)
        odd = Unequal()
        self.assertFails(BadGroup, odd, turned, odd)
        self.assertRaises(BadGroup, turned, EqualToAll())


class GroupTest(NearCase):
    def test_each_group(self):
        self.assertEqual(group("any"), PLACES)
        self.assertEqual(group("near"), ("-=", "->", "<", "=", ">", "+<", "+="))
        self.assertEqual(group("far"), ("below", "-<", "+>", "above"))
        self.assertEqual(group("less"), ("below", "-<", "-=", "->", "<"))
        self.assertEqual(group("more"), (">", "+<", "+=", "+>", "above"))
        self.assertEqual(group("under"), ("below", "-<"))
        self.assertEqual(group("over"), ("+>", "above"))
        self.assertEqual(group("cell"), ("<", "=", ">"))
        self.assertEqual(group("none"), ())
        for name in PLACES:
            self.assertEqual(group(name), (name,))

    def test_groups_tell_what_the_document_says_of_the_numbers(self):
        for x, kept, tolerance in small_cases():
            at = place(x, kept, tolerance)
            true_of = {
                "any": True,
                "near": abs(x - kept) <= tolerance,
                "far": abs(x - kept) > tolerance,
                "less": x < kept,
                "more": x > kept,
                "under": x < kept - tolerance,
                "over": x > kept + tolerance,
                "cell": cell_of(x, tolerance) == cell_of(kept, tolerance),
                "none": False,
            }
            for name, holds in true_of.items():
                self.assertEqual(at in group(name), holds, (name, x, kept, tolerance))

    def test_groups_are_tuples(self):
        for name in ["any", "near", "none", "="]:
            self.assertIsInstance(group(name), tuple)

    def test_what_is_no_group(self):
        for thing in ["", "NEAR", "near ", "nearby", "-", "same", None, True, 0, ["near"], ("=",), {}, b"any"]:
            self.assertFails(BadGroup, thing, group, thing)
        odd = Unequal()
        self.assertFails(BadGroup, odd, group, odd)
        self.assertRaises(BadGroup, group, EqualToAll())


if __name__ == "__main__":
    unittest.main()
