"""Points 20 and 21: the order of a row, and repeated numbers."""

import itertools
import random
import unittest

from nearloops.known import cells, chain, leader, peak
from nearloops.loops import Loop
from nearloops.orders import order, repeats
from nearloops.pairs import clipped
from nearloops.twists import Twist
from tests.helpers import CELLS, CHAIN, LEADER, MOST, PEAK, NearCase
from tests.lone_walks import shortest_twisted, twisted
from tests.reference import few_numbers, gap_of, random_pairs, told
from tests.walks import random_rings


def exchanged(row, index):
    """Return the row in which the numbers at an index and behind it are exchanged."""
    return [*row[:index], row[index + 1], row[index], *row[index + 2:]]


def doubled(row, index):
    """Return the row in which a number stands twice."""
    return [*row[:index + 1], *row[index:]]


def answer(loop, row, tolerance):
    """Return the answer on a row of any length."""
    return told(loop, row, tolerance)[4]


CALLS = {"order": (order, exchanged, 1), "repeats": (repeats, doubled, 0)}
READINGS = {"order": (((0, 1), (1, 0)), 2), "repeats": (((0,), (0, 0)), 1)}


def can_differ(loop, kind, row, tolerance):
    """Tell whether the answer is another one for some index."""
    _, change, less = CALLS[kind]
    return any(answer(loop, row, tolerance) != answer(loop, change(row, index), tolerance)
               for index in range(len(row) - less))


class OrderCase(NearCase):
    def check(self, kind, loop):
        """Check that a row shows that the answer depends on the order or on repetitions; return its length, or None."""
        call, change, less = CALLS[kind]
        found = call(loop)
        if found is None:
            return None
        self.assertEqual([type(found), len(found)], [tuple, 3])
        row, tolerance, index = found
        self.assertEqual([type(row), type(tolerance), type(index)], [list, int, int])
        self.assertTrue(1 <= tolerance <= MOST and all(type(x) is int and abs(x) <= MOST for x in row))
        self.assertTrue(0 <= index < len(row) - less, loop.text())
        self.assertNotEqual(answer(loop, row, tolerance), answer(loop, change(row, index), tolerance), loop.text())
        return len(row)

    def drawn(self, seed, count):
        """Yield drawn loops."""
        for pair in [*random_pairs(seed, count), *random_rings(seed, count)]:
            yield from pair


class OrderTest(OrderCase):
    def test_example(self):
        self.assertEqual([order(leader()), repeats(peak()), len(order(peak())[0])], [None, None, 2])

    def test_known_loops(self):
        self.assertEqual([self.check("order", make()) for make in (leader, chain, cells, peak)], [None, None, None, 2])

    def test_an_answer_that_differs_at_once(self):
        # It is the answer of the number behind the first one.
        for group in ["less", "<", "below", "+>", "+="]:
            loop = Loop([("a", ("none",), "x", True, "b"), ("b", (group,), "x", True, "c")], {"c": "p"})
            self.assertEqual(self.check("order", loop), 2, group)
            self.assertEqual(order(loop)[2], 0)
        for group in ["=", "near", "far", "cell"]:
            loop = Loop([("a", ("none",), "x", True, "b"), ("b", (group,), "x", True, "c")], {"c": "p"})
            self.assertNotEqual(self.check("order", loop), 2, group)

    def test_no_answers(self):
        for loop in [LEADER, CHAIN, CELLS, Loop(PEAK.rules)]:
            self.assertIsNone(order(loop))
            self.assertIsNone(repeats(loop))
        same = Loop(PEAK.rules, {"seek": "p", "fell": "p"})
        self.assertIsNone(order(same))

    def test_the_index_behind_other_numbers(self):
        # Three numbers have to come before it matters which one is less.
        rules = [("a", ("none",), "x", True, "b"), ("b", ("any",), "x", True, "c"), ("c", ("any",), "x", True, "d"),
                 ("d", ("less",), "x", True, "e")]
        loop = Loop(rules, {"e": "p"})
        length = self.check("order", loop)
        self.assertEqual(length, 4)
        self.assertIn(order(loop)[2], [1, 2])
        rules = [("a", ("none",), "x", False, "b"), ("b", ("none",), "x", True, "c"), ("c", ("less",), "x", True, "d")]
        self.assertEqual(self.check("order", Loop(rules, {"d": "p"})), 3)

    def test_loops_that_only_count(self):
        names = "abcdef"
        count = Loop([(names[k], ("none", "any"), "x", k == 2, names[min(k + 1, 5)]) for k in range(6)],
                     {"b": "p", "d": "q", "f": "r"})
        self.assertIsNone(self.check("order", count))
        self.assertEqual(self.check("repeats", count), 1)

    def test_a_difference_that_shows_many_numbers_later(self):
        # Which of the two is kept matters only behind a chain of steps up from it.
        names = "abcdef"
        for place in ["+=", "-=", "+>", "-<"]:
            for steps in range(1, 5):
                rules = [("a", ("none",), "x", True, "b")]
                rules += [(names[k], (place,), "x", True, names[k + 1]) for k in range(1, steps + 1)]
                loop = Loop(rules, {names[steps + 1]: "p"})
                self.assertEqual(self.check("order", loop), shortest_twisted(loop, "order", 8), loop.text())
                self.assertEqual(self.check("repeats", loop), shortest_twisted(loop, "repeats", 8))

    def test_all_joint_states_behind_two_readings(self):
        for loop in [CHAIN, LEADER, PEAK, *self.drawn(106, 6)]:
            for kind in CALLS:
                twist = Twist(loop, *READINGS[kind])
                found = {state: len(origin.way) - 1 + twist.new_count for state, origin in twist.origins.items()}
                costs = {}
                for state, cost in twisted(loop, kind, 6).items():
                    # A d of 4, or of -4, stands for those that are further from 0.
                    costs.setdefault(clipped(state), set()).add(cost)
                self.assertEqual({state: {found[state]} for state in found if clipped(state) == state}, costs, loop.text())

    def test_rows_to_each_joint_state_behind_two_readings(self):
        # Those with a d of 4 stand for all that are further from 0: the row is stretched.
        far = 0
        for loop in [CHAIN, LEADER, *self.drawn(105, 8)]:
            for kind in CALLS:
                twist = Twist(loop, *READINGS[kind])
                for one, other, gap in list(twist.origins):
                    if isinstance(gap, str) or abs(gap[0]) <= 4:
                        gaps = [gap]
                        if gap[0] in (4, -4):
                            gaps += [(gap[0] * many // 4, gap[1]) for many in (5, 6, 9, 400)]
                            far += 1
                        for later in gaps:
                            row, tolerance, index = twist.written([(one, other, later)])
                            first = told(loop, row, tolerance)
                            second = told(loop, CALLS[kind][1](row, index), tolerance)
                            found = (first[3], second[3], gap_of(first[2], second[2], tolerance))
                            self.assertEqual(found, (one, other, later), (loop.text(), kind))
        self.assertGreater(far, 50)

    def test_drawn_loops_against_plain_walks(self):
        lengths = {}
        for loop in self.drawn(101, 25):
            for kind in CALLS:
                length = shortest_twisted(loop, kind, 7)
                self.assertEqual(self.check(kind, loop), length, (kind, loop.text()))
                lengths[kind, length] = True
        self.assertTrue({("order", None), ("order", 2), ("order", 3), ("repeats", None), ("repeats", 1)} <= set(lengths))

    def test_no_row_of_few_numbers_does_it_where_a_longer_one_is_returned(self):
        rows = list(few_numbers(2))
        long = dict.fromkeys(CALLS, 0)
        for loop in self.drawn(102, 30):
            for kind in CALLS:
                length = self.check(kind, loop)
                if length is None or length > 2:
                    self.assertFalse(any(can_differ(loop, kind, row, tolerance) for row, tolerance in rows), loop.text())
                    long[kind] += length is not None
                elif length == 2:
                    short = [row for row, tolerance in rows if len(row) < 2 and can_differ(loop, kind, row, tolerance)]
                    self.assertEqual(short, [])
        self.assertGreater(min(long.values()), 1)

    def test_where_none_is_returned_no_drawn_row_differs(self):
        source = random.Random(103)
        for loop in [*self.drawn(104, 12), LEADER, CHAIN, PEAK]:
            for kind, (call, _, _) in CALLS.items():
                if call(loop) is None:
                    for _ in range(25):
                        e = source.randint(1, 4)
                        row = [source.randint(-4 * e, 4 * e) for _ in range(source.randint(0, 7))]
                        self.assertFalse(can_differ(loop, kind, row, e), (kind, loop.text(), row, e))

    def test_all_orders_of_a_row_have_the_same_answer_where_none_is_returned(self):
        # It tells whether some number differs from the first one, and so whether not all are equal.
        loop = Loop([("a", ("none",), "x", True, "a"), ("a", ("less", "more"), "x", False, "b")], {"b": "mixed"})
        self.assertIsNone(self.check("order", loop))
        self.assertIsNone(self.check("repeats", loop))
        for row in itertools.product(range(3), repeat=4):
            self.assertEqual({answer(loop, list(other), 1) for other in itertools.permutations(row)},
                             {"mixed" if len(set(row)) > 1 else ""})

    def test_equal_arguments_give_equal_values_and_new_lists(self):
        first, second = order(PEAK), order(loop=Loop.parse(PEAK.text()))
        self.assertEqual(first, second)
        first[0].append(7)
        self.assertEqual(order(PEAK), second)
        self.assertEqual(PEAK, peak())


class RepeatsTest(OrderCase):
    def test_known_loops(self):
        for make in (leader, chain, cells, peak):
            self.assertIsNone(self.check("repeats", make()))

    def test_one_number(self):
        loop = Loop([("a", ("none",), "x", True, "b"), ("b", ("=",), "x", False, "c")], {"c": "twice"})
        self.assertEqual(self.check("repeats", loop), 1)
        self.assertEqual(repeats(loop)[1:], (1, 0))

    def test_a_number_that_is_first_passed_and_then_kept(self):
        loop = Loop([("a", ("none",), "x", False, "b"), ("b", ("none",), "x", True, "c"), ("c", ("far",), "x", False, "d")],
                    {"d": "p"})
        self.assertEqual(self.check("repeats", loop), 2)

    def test_the_index_behind_other_numbers(self):
        loop = Loop([("a", ("none",), "x", True, "b"), ("b", ("far",), "x", True, "c"), ("c", ("=",), "x", False, "d")],
                    {"d": "p"})
        self.assertEqual(self.check("repeats", loop), 2)
        self.assertEqual(repeats(loop)[2], 1)

    def test_a_difference_that_shows_many_numbers_later(self):
        # The number is passed once, or passed and then kept; only steps up from it tell which.
        for place in ["+=", "-=", "above"]:
            rules = [("a", ("none",), "x", True, "b"), ("b", ("far",), "x", False, "c"), ("c", ("far",), "x", True, "c"),
                     ("c", (place,), "x", True, "d"), ("d", (place,), "x", True, "e"), ("e", (place,), "x", True, "f")]
            loop = Loop(rules, {"f": "p"})
            self.assertEqual(self.check("repeats", loop), shortest_twisted(loop, "repeats", 10), place)

    def test_equal_arguments_give_equal_values_and_new_lists(self):
        loop = Loop([("a", ("none",), "x", True, "b"), ("b", ("=",), "x", False, "c")], {"c": "twice"})
        first, second = repeats(loop), repeats(loop=Loop.parse(loop.text()))
        self.assertEqual(first, second)
        first[0].append(7)
        self.assertEqual(repeats(loop), second)


if __name__ == "__main__":
    unittest.main()
