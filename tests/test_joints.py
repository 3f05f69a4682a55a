"""Points 12 and 13: joint states of two loops, and the ways to them."""

import copy
import unittest

from nearloops.errors import BadJoint, BadNumber, BadRow, BadTolerance
from nearloops.joints import joint, leads, way
from nearloops.loops import Loop
from nearloops.places import PLACES
from tests.helpers import CELLS, CHAIN, LEADER, MOST, PEAK, EqualToAll, NearCase, Unequal
from tests.reference import deeds, explored, few_numbers, joint_behind, led_to, random_pairs

WALKER = Loop.parse("a none near: go keep -> a")
STONE = Loop.parse("b none: lie keep -> b")
# Goes on by one cell, and by one cell with each second number.
STEPPER = Loop.parse("a none +=: go keep -> a")
SLOW = Loop.parse("a none: go keep -> a\na +=: go keep -> b\nb any: rest pass -> a")
SIGNS = ["<", "=", ">"]


def joint_states(one, other, most):
    """Return all joint states with a d up to most."""
    gaps = ["none", "first", "second"] + [(d, sign) for d in range(-most, most + 1) for sign in SIGNS]
    return [(state, later, gap) for state in one.states for later in other.states for gap in gaps]


def counter(many):
    """Return a loop that keeps the first number alone and counts the numbers, round and round."""
    names = "abcdef"
    rules = [("a", ("none",), "go", True, names[1 % many])]
    rules += [(names[k], ("any",), "go", False, names[(k + 1) % many]) for k in range(many)]
    return Loop(rules)


def climber(rest, down):
    """Return a loop that goes up by one cell, with so many numbers, and down round and round through states."""
    up = ["u", "v", "w"][:rest]
    downs = ["a", "b", "c", "d"][:down]
    rules = [("u", ("none",), "go", True, "u"), ("u", ("=",), "turn", True, "a")]
    for k, state in enumerate(up):
        rules.append((state, ("+=",) if k == 0 else ("=",), "up", True, up[(k + 1) % rest]))
    rules += [(state, ("-=",), "down", True, downs[(k + 1) % down]) for k, state in enumerate(downs)]
    # Any other number is the end of it.
    return Loop(rules + [(state, ("any",), "end", False, "z") for state in up + downs])


class JointTest(NearCase):
    def test_examples(self):
        self.assertEqual(joint(LEADER, CHAIN, [0, 5, 3], 3), ("seek", "seek", (0, "<")))
        self.assertEqual(joint(LEADER, CHAIN, [], 1), ("seek", "seek", "none"))

    def test_gaps_without_two_kept_numbers(self):
        nobody = Loop([("x", ("any",), "no", True, "y")])
        self.assertEqual(joint(nobody, nobody, [3, 4], 1), ("x", "x", "none"))
        self.assertEqual(joint(LEADER, nobody, [3, 9], 1), ("seek", "x", "first"))
        self.assertEqual(joint(nobody, LEADER, [3, 9], 1), ("x", "seek", "second"))
        self.assertEqual(joint(LEADER, nobody, [], 1), ("seek", "x", "none"))

    def test_the_gap_is_from_the_first_to_the_second_kept_number(self):
        self.assertEqual(joint(STONE, WALKER, [4, 9, 13], 5), ("b", "a", (2, "<")))
        self.assertEqual(joint(WALKER, STONE, [4, 9, 13], 5), ("a", "b", (-2, ">")))
        self.assertEqual(joint(STONE, WALKER, [4, 9], 5), ("b", "a", (1, "=")))
        self.assertEqual(joint(STONE, WALKER, [3, 4], 5), ("b", "a", (0, ">")))
        self.assertEqual(joint(STONE, WALKER, [0, -1], 5), ("b", "a", (-1, ">")))

    def test_small_rows_lead_to_the_joint_states_of_the_document(self):
        for one, other in random_pairs(11, 30):
            for row, tolerance in few_numbers(2):
                found = joint(one, other, row, tolerance)
                self.assertEqual(found, joint_behind(one, other, row, tolerance))
                self.assertEqual([type(found), len(found)], [tuple, 3])

    def test_numbers_of_thirty_digits(self):
        leap = Loop([("a", ("none", "far"), "go", True, "a")])
        self.assertEqual(joint(STONE, leap, [-MOST, MOST], 1), ("b", "a", (2 * MOST, "=")))
        self.assertEqual(joint(STONE, leap, (MOST, -MOST), MOST), ("b", "a", (-2, "=")))
        self.assertEqual(joint(LEADER, LEADER, [MOST] * 1000, 1), ("seek", "seek", (0, "=")))

    def test_errors(self):
        self.assertRaises(BadRow, joint, LEADER, CHAIN, [0] * 1001, 0)
        self.assertFails(BadNumber, MOST + 1, joint, LEADER, CHAIN, [0, MOST + 1], 0)
        self.assertFails(BadTolerance, 0, joint, LEADER, CHAIN, [0, MOST], 0)
        self.assertEqual(joint(tolerance=1, row=[], other=CHAIN, one=PEAK), ("seek", "seek", "none"))


class BadJointTest(NearCase):
    GOOD = ("seek", "fell", (3, "<"))

    def wrong(self):
        """Return objects that are no joint states of the leader loop and the peak loop."""
        gaps = ["", "None", "third", "<", None, True, 0, (), (1,), ("<", 1), (1, "<", 1), (1, "<="), (1, ""), (1, None),
                (True, "<"), (1.0, "<"), ("1", "<"), (None, "<"), (1, ["<"]), {0: 1, 1: "<"}, Unequal(), EqualToAll(),
                (EqualToAll(), "<"), (1, EqualToAll()), (MOST + 1, "="), (-MOST - 1, "="), (10 ** 5000, "<")]
        states = ["fell", "", "seeks", None, 0, True, ["seek"], ("seek",), b"seek", Unequal(), EqualToAll()]
        yield from [("seek", "fell", gap) for gap in gaps]
        yield from [(state, "fell", "none") for state in states]
        yield from [("seek", state, "none") for state in states if state != "fell"]
        yield from [None, True, 0, "", "abc", (), ("seek",), ("seek", "fell"), ("seek", "fell", "none", "none"), {},
                    {"seek": 1, "fell": 2, "none": 3}, ("fell", "seek", "none"), Unequal(), EqualToAll()]

    def fails(self, state, call, *args):
        """Check that a call raises BadJoint with this very object."""
        with self.assertRaises(BadJoint) as caught:
            call(LEADER, PEAK, *args)
        self.assertIs(caught.exception.state, state)

    def test_what_is_no_joint_state(self):
        for thing in self.wrong():
            self.fails(thing, leads, thing, self.GOOD)
            self.fails(thing, leads, self.GOOD, thing)
            self.fails(thing, way, thing)

    def test_the_first_joint_state_comes_first(self):
        one, other = ("seek", "fall", "none"), ("seek", "fell", (0, 0))
        self.fails(one, leads, one, other)
        self.fails(other, leads, other, one)

    def test_each_joint_state_is_one_of_these_two_loops(self):
        state = ("seek", "fell", "none")
        self.assertFails(BadJoint, state, leads, PEAK, LEADER, state, ("fell", "seek", "none"))
        self.assertFails(BadJoint, state, way, PEAK, LEADER, state)
        self.assertIsNone(way(LEADER, PEAK, state))

    def test_lists_are_joint_states_too(self):
        self.assertTrue(leads(LEADER, CHAIN, ["seek", "seek", [0, "<"]], ("seek", "seek", [1, "="])))
        self.assertEqual(way(LEADER, CHAIN, ["seek", "seek", [1, "<"]]), way(LEADER, CHAIN, ("seek", "seek", (1, "<"))))
        self.assertIsNotNone(way(LEADER, CHAIN, ["seek", "seek", [1, "<"]]))
        state = ["seek", "seek", [1, "<"]]
        before = copy.deepcopy(state)
        way(LEADER, CHAIN, state)
        leads(LEADER, CHAIN, state, state)
        self.assertEqual(state, before)

    def test_a_d_of_thirty_digits(self):
        for d in [MOST, -MOST]:
            self.assertTrue(leads(STONE, WALKER, ("b", "a", (d, "<")), ["b", "a", [d, "<"]]))
            self.assertFalse(leads(STONE, WALKER, ("b", "a", (d, "<")), ("b", "a", (-d, "<"))))
        for d in [MOST + 1, -MOST - 1]:
            wrong = ("seek", "fell", (d, "<"))
            self.fails(wrong, leads, wrong, self.GOOD)
            self.fails(wrong, leads, self.GOOD, wrong)
            self.fails(wrong, way, wrong)


class LeadsTest(NearCase):
    def test_examples(self):
        self.assertIs(leads(LEADER, CHAIN, ("seek", "seek", (0, "<")), ("seek", "seek", (1, "="))), True)
        self.assertIs(leads(LEADER, CHAIN, ("seek", "seek", "none"), ("seek", "seek", "none")), False)
        self.assertIs(leads(LEADER, CHAIN, ("seek", "seek", "none"), ("seek", "seek", (0, "="))), True)

    def test_joint_states_lead_where_the_document_says(self):
        # From each joint state all those are looked at to which some number with the tolerance 5 leads.
        for one, other in random_pairs(12, 16, 2):
            tables = deeds(one), deeds(other)
            states = joint_states(one, other, 7)
            for number, state in enumerate(states):
                later, _ = led_to(*tables, state, 7)
                for wanted in later + states[number % 5::5]:
                    texts = (one.text(), other.text(), state, wanted)
                    self.assertIs(leads(one, other, state, wanted), wanted in later, texts)

    def test_joint_states_that_are_not_reached_lead_too(self):
        self.assertIsNone(way(LEADER, LEADER, ("seek", "seek", (5, "<"))))
        self.assertTrue(leads(LEADER, LEADER, ("seek", "seek", (5, "<")), ("seek", "seek", (0, "="))))
        self.assertTrue(leads(LEADER, LEADER, ("seek", "seek", (5, "<")), ("seek", "seek", (1, "="))))
        self.assertFalse(leads(LEADER, LEADER, ("seek", "seek", (5, "<")), ("seek", "seek", (4, "="))))
        self.assertFalse(leads(LEADER, LEADER, ("seek", "seek", (0, "=")), ("seek", "seek", (1, "="))))

    def test_the_order_of_the_rests_is_respected(self):
        one = Loop([("a", ("<",), "x", True, "b")])
        other = Loop([("a", (">",), "y", False, "b")])
        # A number between the two kept numbers is less than the first and greater than the second.
        self.assertTrue(leads(one, other, ("a", "a", (0, "<")), ("b", "b", (0, "<"))))
        for sign in SIGNS:
            self.assertFalse(leads(one, other, ("a", "a", (0, "=")), ("b", "b", (0, sign))))
            self.assertFalse(leads(one, other, ("a", "a", (0, ">")), ("b", "b", (0, sign))))
        self.assertFalse(leads(one, other, ("a", "a", (0, "<")), ("b", "b", (0, "="))))

    def test_leaps_of_any_size(self):
        leap = Loop([("a", ("above",), "x", True, "a")])
        for d in [0, 1, 7, -7, 10 ** 20, -MOST]:
            start = ("b", "a", (d, "="))
            for later in [d + 2, d + 9, d + 10 ** 20, MOST]:
                # The number is above both or, if the kept number of the leaping loop is the lesser one, between them.
                for sign in SIGNS:
                    self.assertIs(leads(STONE, leap, start, ("b", "a", (later, sign))), True)
            self.assertFalse(leads(STONE, leap, start, ("b", "a", (d + 1, "<"))))
        start = ("a", "b", (MOST, "<"))
        for later, wanted in [(2, True), (MOST - 2, True), (MOST - 1, False), (0, True), (-1, True), (-MOST, True)]:
            self.assertIs(leads(leap, STONE, start, ("a", "b", (later, "<"))), wanted, later)

    def test_leaps_from_one_kept_number(self):
        still = Loop([("b", ("none",), "x", False, "c")])
        late = Loop([("a", ("none",), "x", True, "a")])
        for d in [-MOST, -2, -1, 0, 1, 2, MOST]:
            for sign in SIGNS:
                self.assertTrue(leads(STONE, late, ("b", "a", "first"), ("b", "a", (d, sign))))
                self.assertTrue(leads(late, STONE, ("a", "b", "second"), ("a", "b", (d, sign))))
                self.assertFalse(leads(STONE, still, ("b", "b", "first"), ("b", "c", (d, sign))))
        self.assertTrue(leads(STONE, still, ("b", "b", "first"), ("b", "c", "first")))

    def test_names_of_arguments(self):
        state = ("seek", "seek", "none")
        self.assertIs(leads(later=state, state=state, other=CHAIN, one=LEADER), False)


class WayTest(NearCase):
    def check(self, one, other, state, found):
        """Check that a row and a tolerance lead to a joint state."""
        self.assertIsInstance(found, tuple)
        row, tolerance = found
        self.assertIsInstance(row, list)
        self.assertEqual(joint_behind(one, other, row, tolerance), state)
        if len(row) <= 1000:
            self.assertEqual(joint(one, other, row, tolerance), state)
        self.assertTrue(1 <= tolerance <= MOST and all(type(x) is int and abs(x) <= MOST for x in row))

    def check_all(self, one, other, most, around):
        """Check the ways to all joint states with a d up to most, with those around in view."""
        lengths, _ = explored(one, other, around)
        for state in joint_states(one, other, most):
            found = way(one, other, state)
            length = None if found is None else len(found[0])
            self.assertEqual(length, lengths.get(state), (one.text(), other.text(), state))
            if found is not None:
                self.check(one, other, state, found)

    def test_the_first_joint_state(self):
        for one, other in [(LEADER, CHAIN), (PEAK, WALKER)]:
            self.assertEqual(way(one, other, (one.start, other.start, "none")), ([], 1))

    def test_examples(self):
        self.assertIsNone(way(LEADER, CHAIN, ("seek", "seek", (3, "="))))
        self.assertEqual(len(way(LEADER, CHAIN, ("seek", "seek", (0, "=")))[0]), 1)
        self.assertEqual(len(way(LEADER, CHAIN, ("seek", "seek", (1, "<")))[0]), 2)

    def test_gaps_that_are_words(self):
        late = Loop([("a", ("none",), "x", False, "b"), ("b", ("none",), "x", True, "b")])
        self.assertEqual(len(way(late, STONE, ("b", "b", "second"))[0]), 1)
        self.assertEqual(len(way(STONE, late, ("b", "b", "first"))[0]), 1)
        self.assertIsNone(way(late, STONE, ("b", "b", "first")))
        self.assertIsNone(way(late, STONE, ("b", "b", "none")))
        self.assertEqual(len(way(late, late, ("b", "b", "none"))[0]), 1)
        self.check(late, STONE, ("b", "b", (-40, "<")), way(late, STONE, ("b", "b", (-40, "<"))))

    def test_each_d_from_minus_forty_to_forty(self):
        for one, other in [(STONE, WALKER), (WALKER, STONE), (STONE, SLOW), (LEADER, CHAIN), (CHAIN, PEAK)]:
            self.check_all(one, other, 40, 43)

    def test_lengths_of_long_ways(self):
        for d in range(2, 41):
            self.assertEqual(len(way(STONE, STEPPER, ("b", "a", (d, "=")))[0]), d + 1)
            self.assertEqual(len(way(STEPPER, STONE, ("a", "b", (-d, "=")))[0]), d + 1)
            self.assertEqual(len(way(STONE, SLOW, ("b", "b", (d, "=")))[0]), 2 * d)
            self.assertEqual(len(way(STONE, SLOW, ("b", "a", (d, "=")))[0]), 2 * d + 1)
            self.assertIsNone(way(STONE, STEPPER, ("b", "a", (-d, "="))))
            self.assertIsNone(way(STONE, STEPPER, ("b", "a", (d, "<"))))
            self.assertIsNone(way(STEPPER, STEPPER, ("a", "a", (d, "="))))
        self.assertEqual(len(way(WALKER, STONE, ("a", "b", (40, "<")))[0]), 41)
        self.assertEqual(len(way(WALKER, STONE, ("a", "b", (-40, "<")))[0]), 41 + 1)

    def test_ways_that_go_far_up_and_come_down_again(self):
        # For some joint states these have to turn at a d of 20 or 15, so that the numbers of states fit together.
        for many, rest, down, most in [(5, 1, 4, 41), (5, 2, 3, 46)]:
            one, other = counter(many), climber(rest, down)
            self.check_all(one, other, 1, 30)
            self.check_all(other, one, 0, 30)
            lengths, _ = explored(one, other, 30)
            ends = {length: state for state, length in lengths.items() if state[1] in "abcd" and state[2] == (1, "=")}
            self.assertEqual(max(ends), most)
            row, tolerance = way(one, other, ends[most])
            gaps = [joint(one, other, row[:count], tolerance)[2] for count in range(1, most + 1)]
            self.assertEqual(max(d for d, _ in gaps), {41: 20, 46: 15}[most])

    def test_ways_through_parts_of_other_ways(self):
        # Each of these leads far up through joint states that shorter ways to others come to earlier or later.
        cases = [
            ("a none: x keep -> b\na any: x pass -> b\nb any: x pass -> b",
             "a none: x keep -> a\na +=: x keep -> b\na >: x keep -> d\nb <: x keep -> e\nb +=: x keep -> a\n"
             "b =: x keep -> b\nc <: x keep -> c\nc ->: x pass -> d\nd =: x keep -> b\nd ->: x keep -> e\n"
             "e >: x keep -> e\ne ->: x keep -> c\ne +=: x keep -> c",
             ("b", "a", (-4, "=")), 14),
            ("a none: x keep -> a\na ->: x keep -> a\na -=: x keep -> c\nb <: x keep -> b\nc -<: x keep -> a\n"
             "d ->: x keep -> d\nd -=: x keep -> a\na any: x pass -> d\nb any: x pass -> d\nc any: x pass -> d\n"
             "d any: x pass -> d",
             "a none: x keep -> a\na +=: x pass -> b\nb -=: x keep -> d\nb -<: x keep -> e\nc +>: x pass -> b\n"
             "c +=: x keep -> c\nd +=: x keep -> e\ne -<: x keep -> d\ne ->: x keep -> b",
             ("c", "d", (-4, "=")), 10),
        ]
        for one_text, other_text, state, length in cases:
            one, other = Loop.parse(one_text), Loop.parse(other_text)
            found = way(one, other, state)
            self.assertEqual(len(found[0]), length)
            self.check(one, other, state, found)
            d, sign = state[2]
            turned = (state[1], state[0], (-d, sign))
            self.assertEqual(len(way(other, one, turned)[0]), length)
            self.check_all(one, other, 4, 20)

    def test_kept_numbers_on_both_sides_of_a_number(self):
        one = Loop([("a", ("above",), "x", False, "b")])
        other = Loop([("a", ("below",), "x", False, "b")])
        for d in range(-9, 10):
            for sign in SIGNS:
                state, later = ("a", "a", (d, sign)), ("b", "b", (d, sign))
                self.assertIs(leads(one, other, state, later), d >= 4)
                self.assertIs(leads(other, one, state, later), d <= -4)

    def test_leaps_between_the_kept_numbers(self):
        # The second loop leaps up and then down, between the kept numbers, as the first one sees.
        one = Loop.parse("a none: x keep -> b\nb above: x pass -> c\nc above: x pass -> d\nb any: x pass -> e\n"
                         "c any: x pass -> e")
        leaping = Loop.parse("a none: x keep -> b\nb above: x keep -> c\nc below: x keep -> d\nb any: x pass -> e\n"
                             "c any: x pass -> e")
        # This one goes up to a d of just 4 before.
        stepping = Loop.parse("a none: x keep -> b\nb +=: x keep -> c\nc +=: x keep -> d\nd +=: x keep -> e\n"
                              "e +=: x keep -> f\nf below: x keep -> a\na any: x pass -> b")
        for d in range(-40, 41):
            for sign in SIGNS:
                state = ("d", "d", (d, sign))
                found = way(one, leaping, state)
                self.assertEqual(None if found is None else len(found[0]), 3 if d >= 2 else None)
                if found is not None:
                    self.check(one, leaping, state, found)
                found = way(leaping, one, ("d", "d", (-d, sign)))
                self.assertEqual(None if found is None else len(found[0]), 3 if d >= 2 else None)
        far = Loop.parse("a none: x keep -> b\nb any: x pass -> c\nc above: x pass -> d\nd above: x pass -> e\n"
                         "e above: x pass -> f\nf above: x pass -> a\nf any: x pass -> b\na any: x pass -> b")
        lengths, _ = explored(far, stepping, 15)
        for d in range(-5, 6):
            for sign in SIGNS:
                state = ("a", "a", (d, sign))
                found = way(far, stepping, state)
                self.assertEqual(None if found is None else len(found[0]), lengths.get(state))
                self.assertEqual(found is not None and len(found[0]) == 6, d == 2)

    def test_leaps_from_each_height_down_to_two(self):
        # The second loop goes up with each number until it leaps down; the first one counts the numbers.
        rising = Loop.parse("a none +=: x keep -> a\na below: x keep -> b\na any: x pass -> c\nb any: x pass -> c")
        one = counter(6)
        for count in range(6, 12):
            for sign in SIGNS:
                state = (one.states[count % 6], "b", (2, sign))
                found = way(one, rising, state)
                self.assertEqual(len(found[0]), count)
                self.check(one, rising, state, found)
                self.assertEqual(joint(one, rising, found[0][:-1], found[1])[2], (count - 2, "="))
                self.assertEqual(len(way(rising, one, ("b", one.states[count % 6], (-2, sign)))[0]), count)

    def test_rows_may_be_longer_than_a_thousand(self):
        # The second loop can go up by one cell with each sixth number, the first one allows it with each fifth.
        names = "abcdef"
        one = Loop([("a", ("none",), "x", True, "a"), ("e", ("more",), "x", False, "a")]
                   + [(names[k], ("below",), "x", False, names[k + 1]) for k in range(4)]
                   + [(state, ("any",), "x", False, "z") for state in "abcde"])
        other = Loop([("a", ("none",), "x", True, "a"), ("a", ("+=",), "x", True, "b")]
                     + [(names[k], ("any",), "x", False, names[(k + 1) % 6]) for k in range(6)])
        for d in [1, 5, 39, 40]:
            found = way(one, other, ("a", "b", (d, "=")))
            self.assertEqual(len(found[0]), 30 * d - 4)
            self.check(one, other, ("a", "b", (d, "=")), found)
            found = way(other, one, ("b", "a", (-d, "=")))
            self.assertEqual(len(found[0]), 30 * d - 4)
            self.check(other, one, ("b", "a", (-d, "=")), found)

    def test_what_few_numbers_reach(self):
        for one, other in random_pairs(13, 40, 2):
            reached = {}
            for row, tolerance in few_numbers(2, 6):
                reached.setdefault(joint_behind(one, other, row, tolerance), len(row))
            for state in joint_states(one, other, 6):
                found = way(one, other, state)
                # A way is at most as long as that of two numbers if there is one, and longer otherwise.
                length = None if found is None or len(found[0]) > 2 else len(found[0])
                self.assertEqual(length, reached.get(state), (one.text(), other.text(), state))

    def test_lengths_of_ways_of_random_loops(self):
        for one, other in random_pairs(14, 60):
            self.check_all(one, other, 5, 16)

    def test_equal_arguments_give_equal_values_and_new_lists(self):
        state = ("b", "a", (9, "<"))
        first = way(STONE, WALKER, state)
        first_row = list(first[0])
        second = way(Loop(STONE.rules), Loop(WALKER.rules), state)
        self.assertEqual(first, second)
        self.assertIsNot(first[0], second[0])
        first[0].append(7)
        self.assertEqual(way(STONE, WALKER, state)[0], first_row)

    def test_names_of_arguments(self):
        self.assertEqual(way(state=("seek", "seek", "none"), other=CELLS, one=LEADER), ([], 1))


class PlacesTest(unittest.TestCase):
    def test_each_loop_sees_the_places_of_the_number_that_leads(self):
        # For each pair of places a number exists only if the kept numbers lie as they do.
        for place in PLACES:
            one = Loop([("a", (place,), "x", False, "b")])
            for sign in SIGNS:
                for d in range(-6, 7):
                    self.assertTrue(leads(one, STONE, ("a", "b", (d, sign)), ("b", "b", (d, sign))))
                    self.assertTrue(leads(STONE, one, ("b", "a", (d, sign)), ("b", "b", (d, sign))))


if __name__ == "__main__":
    unittest.main()
