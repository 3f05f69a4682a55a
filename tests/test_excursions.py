"""Point 14: excursions."""

import unittest

from nearloops.excursions import excursions
from nearloops.joints import leads
from nearloops.loops import Loop
from tests.helpers import CELLS, CHAIN, LEADER, PEAK
from tests.reference import random_pairs
from tests.walks import SIGNS, lead_of_loops, random_rings

WALKER = Loop.parse("a none near: go keep -> a")
STONE = Loop.parse("b none: lie keep -> b")
TURNED = {"<": ">", "=": "=", ">": "<"}


def side_states(one, other):
    """Return all side states."""
    return [(s, t, sign) for s in one.states for t in other.states for sign in SIGNS]


def walked(one, other, d, high):
    """Return the excursions that a plain walk finds from one d, on its side of 0, with a d up to high."""
    lead, later = lead_of_loops(one, other, high), {}

    def is_inside(gap):
        return not isinstance(gap, str) and (gap[0] >= d if d > 0 else gap[0] <= d)

    found = []
    for first in side_states(one, other):
        begin = (first[0], first[1], (d, first[2]))
        seen, queue = {begin}, [begin]
        while queue:
            state = queue.pop()
            if state not in later:
                later[state] = [after for after in lead(state) if is_inside(after[2])]
            queue += [after for after in later[state] if after not in seen]
            seen.update(later[state])
        found += [(first, (s, t, sign)) for s, t, (c, sign) in seen if c == d]
    return sorted(found)


def turned(pairs):
    """Return excursions with the two loops in the other order."""
    return sorted(tuple((t, s, TURNED[sign]) for s, t, sign in pair) for pair in pairs)


def climber(many, down):
    """Return a loop that climbs by one cell with each of so many states, turns, and goes down with so many."""
    up, downs = "abc"[:many], "uvw"[:down]
    rules = [("a", ("none",), "x", True, "a"), ("a", ("=",), "x", True, "u")]
    rules += [(state, ("+=",), "x", True, up[(k + 1) % many]) for k, state in enumerate(up)]
    rules += [(state, ("-=",), "x", True, downs[(k + 1) % down]) for k, state in enumerate(downs)]
    return Loop(rules)


def counter(many):
    """Return a loop that keeps the first number alone and counts the numbers."""
    names = "abcdef"
    return Loop([("a", ("none",), "x", True, "a")]
                + [(names[k], ("any",), "x", False, names[(k + 1) % many]) for k in range(many)])


class ExcursionsTest(unittest.TestCase):
    def check(self, one, other, high):
        """Check the excursions of two loops against plain walks, from more than one d, and below 0."""
        found = excursions(one, other)
        texts = (one.text(), other.text())
        self.assertEqual(found, walked(one, other, 4, 4 + high), texts)
        self.assertEqual(found, walked(one, other, 7, 7 + high), texts)
        self.assertEqual(turned(excursions(other, one)), walked(one, other, -4, 4 + high), texts)
        self.assertEqual(turned(excursions(other, one)), walked(one, other, -6, 6 + high), texts)

    def test_examples(self):
        self.assertEqual(excursions(LEADER, CHAIN)[0], (("seek", "seek", "<"), ("seek", "seek", "<")))
        self.assertEqual(len(excursions(LEADER, CHAIN)), 3)
        self.assertEqual(len(excursions(STONE, WALKER)), 9)

    def test_pairs_of_side_states_in_ascending_order(self):
        for one, other in [(PEAK, CHAIN), (CELLS, PEAK), (STONE, WALKER), (PEAK, PEAK)]:
            found = excursions(one, other)
            self.assertEqual(found, sorted(set(found)))
            self.assertIs(type(found), list)
            for pair in found:
                self.assertEqual([type(pair), len(pair)], [tuple, 2])
                for side in pair:
                    self.assertEqual([type(side), len(side)], [tuple, 3])
                    self.assertIn(side, side_states(one, other))

    def test_each_side_state_is_in_an_excursion_with_itself(self):
        for one, other in [*random_pairs(41, 20), (STONE, STONE), (PEAK, LEADER)]:
            found = excursions(one, other)
            for side in side_states(one, other):
                self.assertIn((side, side), found)

    def test_loops_that_do_nothing_far_away(self):
        self.assertEqual(excursions(STONE, STONE), [((("b", "b", sign),) * 2) for sign in SIGNS])

    def test_states_that_are_never_reached_count_too(self):
        one = Loop([("a", ("none",), "x", True, "a"), ("b", ("=",), "x", False, "c")])
        found = excursions(one, STONE)
        for sign in SIGNS:
            self.assertIn((("b", "b", sign), ("c", "b", sign)), found)
        self.assertEqual(len(found), 12)

    def test_all_gaps_on_the_way_are_at_least_d(self):
        # The first loop alone can go on by a step up, which brings d down by one, and then up again.
        one = Loop([("a", ("none",), "x", True, "a"), ("a", ("+=",), "x", True, "b"), ("b", ("-=",), "x", True, "c")])
        found = excursions(one, STONE)
        self.assertNotIn((("a", "b", "="), ("c", "b", "=")), found)
        self.assertIn((("a", "b", "="), ("c", "b", "=")), excursions(Loop([
            ("a", ("none",), "x", True, "a"), ("a", ("-=",), "x", True, "b"), ("b", ("+=",), "x", True, "c")]), STONE))
        self.check(one, STONE, 4)
        self.check(STONE, one, 4)

    def test_what_a_number_near_to_the_other_kept_one_does(self):
        # The second loop sees a number near to the first kept one as one below its own.
        one = Loop([("a", ("none",), "x", True, "a")])
        other = Loop([("a", ("below",), "x", True, "b"), ("b", ("above",), "x", True, "c")])
        self.check(one, other, 6)
        self.check(other, one, 6)

    def test_leaps_up_and_down_again(self):
        # A leap up, and one down between the kept numbers, that comes back to any d.
        other = Loop([("a", ("above",), "x", True, "b"), ("b", ("below",), "x", True, "c")])
        found = excursions(STONE, other)
        for sign in SIGNS:
            for later in SIGNS:
                self.assertIn((("b", "a", sign), ("b", "c", later)), found)
        self.assertNotIn((("b", "b", "="), ("b", "c", "=")), found)
        self.check(STONE, other, 6)
        self.check(other, STONE, 6)

    def test_drawn_pairs_against_plain_walks(self):
        for one, other in random_pairs(42, 60, 2):
            self.check(one, other, 9)

    def test_drawn_pairs_that_climb_against_plain_walks(self):
        for one, other in random_rings(43, 30, 3):
            self.check(one, other, 14)

    def test_rounds_of_different_lengths(self):
        # The numbers of steps up and down fit together only if the climb is high enough.
        for many, down, count in [(2, 3, 5), (3, 2, 4), (1, 3, 5), (3, 3, 2)]:
            self.check(counter(count), climber(many, down), 18)
        one, other = counter(5), climber(1, 3)
        found = excursions(one, other)
        self.assertEqual(found, walked(one, other, 4, 4 + 40))

    def test_a_walk_by_leads(self):
        # The same with the function of the package that tells to which joint states one leads.
        for one, other in [(STONE, WALKER), (CHAIN, LEADER), *list(random_pairs(44, 8, 1))]:
            for d in [4, 5]:
                states = [(s, t, (c, sign)) for s, t, sign in side_states(one, other) for c in range(d, d + 5)]
                later = {state: [after for after in states if leads(one, other, state, after)] for state in states}
                found = []
                for first in [state for state in states if state[2][0] == d]:
                    seen, queue = {first}, [first]
                    while queue:
                        fresh = [after for after in later[queue.pop()] if after not in seen]
                        queue += fresh
                        seen.update(fresh)
                    found += [((*first[:2], first[2][1]), (*last[:2], last[2][1])) for last in seen if last[2][0] == d]
                self.assertEqual(excursions(one, other), sorted(found))

    def test_equal_arguments_give_equal_values_and_new_lists(self):
        first = excursions(CHAIN, PEAK)
        second = excursions(other=PEAK, one=CHAIN)
        self.assertEqual(first, second)
        self.assertIsNot(first, second)
        first.clear()
        self.assertEqual(excursions(CHAIN, PEAK), second)
        self.assertEqual(PEAK.text(), Loop.parse(PEAK.text()).text())

    def test_large_loops(self):
        names = "abcdef"
        rules = [("a", ("none",), "x", True, "a")]
        rules += [(names[k % 6], (place,), "x", k % 3 > 0, names[(k * k + 1) % 6])
                  for k, place in enumerate(["-=", "=", "+=", "above", "below", "->", "+<"] * 5)]
        one = Loop(rules + [(state, ("any",), "x", False, "f") for state in "abcd"])
        other = Loop([(*rule[:4], names[5 - names.index(rule[4])]) for rule in one.rules])
        self.assertEqual([len(one), len(one.states), len(other.states)], [40, 6, 6])
        found = excursions(one, other)
        self.assertGreater(len(found), 108)
        # One more excursion behind each one is an excursion, too.
        ends = {}
        for first, last in found:
            ends.setdefault(first, set()).add(last)
        for first, last in found[::97]:
            self.assertLessEqual(ends[last], ends[first])


if __name__ == "__main__":
    unittest.main()
