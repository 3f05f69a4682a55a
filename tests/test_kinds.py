"""Point 22: states that are met, and states that are alike."""

import random
import unittest

from nearloops.kinds import kinds, met
from nearloops.known import cells, chain, leader, peak
from nearloops.loops import Loop
from nearloops.places import PLACES
from tests.lone_walks import lengths_alone
from tests.reference import deeds, place_at, random_pairs
from tests.walks import random_rings

EXAMPLE = Loop.parse("a none: new keep -> b\nb near: old pass -> c\nc near: old pass -> b\nc far: new keep -> c\n"
                     "b far: new keep -> b")


def deeds_from(loop, state, kept, row, tolerance):
    """Return what the loop does from a state with a kept number: words, keeps and all answers on the way."""
    table, done = deeds(loop), [loop.answers[state]]
    for x in row:
        word, keeps, state = table[state, place_at(x, kept, tolerance)]
        kept = x if keeps else kept
        done.append((word, keeps, loop.answers[state]))
    return done


def differ_on_some_row(loop, one, other):
    """Tell whether two states differ: by pairs of states, as both have the same kept number until they differ."""
    table, seen, queue = deeds(loop), {(one, other)}, [(one, other)]
    while queue:
        first, second = queue.pop()
        if loop.answers[first] != loop.answers[second]:
            return True
        for place in PLACES:
            deed, other_deed = table[first, place], table[second, place]
            if deed[:2] != other_deed[:2]:
                return True
            later = (deed[2], other_deed[2])
            queue += [] if later in seen else [later]
            seen.add(later)
    return False


class KindsTest(unittest.TestCase):
    def drawn(self, seed, count):
        """Yield drawn loops."""
        for pair in [*random_pairs(seed, count, 5), *random_rings(seed, count, 6)]:
            yield from pair

    def test_example(self):
        self.assertEqual([met(EXAMPLE), kinds(EXAMPLE)], [("b", "c"), [["b", "c"]]])

    def test_known_loops(self):
        for make in (leader, chain, cells):
            self.assertEqual([met(make()), kinds(make())], [("seek",), [["seek"]]])
        self.assertEqual([met(peak()), kinds(peak())], [("seek", "fell"), [["seek"], ["fell"]]])

    def test_loops_without_a_met_state(self):
        for loop in [Loop([("a", ("any",), "x", True, "b")]), Loop([("a", ("none",), "x", False, "b")]),
                     Loop([("a", ("none",), "x", False, "b"), ("b", ("none",), "x", False, "a"), ("b", ("=",), "x", True, "b")])]:
            self.assertEqual([met(loop), kinds(loop)], [(), []])

    def test_states_that_are_met_only_without_a_kept_number(self):
        loop = Loop.parse("a none: x pass -> b\nb none: x keep -> c\nc =: x pass -> c\nb =: x keep -> d")
        self.assertEqual([met(loop), kinds(loop)], [("c",), [["c"]]])
        # The first state is met if a row leads back to it with a kept number.
        loop = Loop.parse("a none: x keep -> b\nb far: x pass -> a")
        self.assertEqual([met(loop), kinds(loop)], [("a", "b"), [["a"], ["b"]]])

    def test_states_whose_rules_are_written_otherwise(self):
        loop = Loop.parse("a none: x keep -> b\nb near: x pass -> c\nb far: y keep -> b\n"
                          "c -= -> <: x pass -> b\nc below -< over: y keep -> c\nc any: x pass -> d\nd over: y keep -> b\n"
                          "d near: x pass -> d\nd under: y keep -> d")
        self.assertEqual(kinds(loop), [["b", "c", "d"]])
        # A rule that says what no rule says.
        loop = Loop.parse("a none: x keep -> b\nb =: x pass -> c\nc =: x pass -> b\nc any: pass pass -> c")
        self.assertEqual(kinds(loop), [["b", "c"]])
        loop = Loop.parse("a none: x keep -> b\nb =: x pass -> c\nc =: x pass -> b\nc any: pass pass -> b")
        self.assertEqual(kinds(loop), [["b", "c"]])

    def test_states_that_differ_in_one_thing(self):
        text = "a none: x keep -> b\nb near: x pass -> c\nb far: x keep -> b\nc near: x pass -> b\nc far: {} {} -> c"
        self.assertEqual(kinds(Loop.parse(text.format("x", "keep"))), [["b", "c"]])
        self.assertEqual(kinds(Loop.parse(text.format("y", "keep"))), [["b"], ["c"]])
        self.assertEqual(kinds(Loop.parse(text.format("x", "pass"))), [["b"], ["c"]])
        self.assertEqual(kinds(Loop.parse(text.format("x", "keep") + "\nanswer c p")), [["b"], ["c"]])
        self.assertEqual(kinds(Loop.parse(text.format("x", "keep") + "\nanswer b p\nanswer c p")), [["b", "c"]])
        self.assertEqual(kinds(Loop.parse(text.format("x", "keep") + "\nanswer a p")), [["b", "c"]])
        for place in PLACES:
            rules = [("a", ("none",), "x", True, "b"), ("b", ("any",), "x", True, "c"), ("c", (place,), "y", True, "b"),
                     ("c", ("any",), "x", True, "b")]
            self.assertEqual(kinds(Loop(rules)), [["b"], ["c"]])

    def test_a_difference_that_shows_many_numbers_later(self):
        names = "abcdef"
        rules = [("a", ("none",), "x", True, "b")]
        rules += [(names[k], ("any",), "x", True, names[k + 1]) for k in range(1, 5)] + [("f", ("any",), "x", True, "f")]
        self.assertEqual(kinds(Loop(rules)), [["b", "c", "d", "e", "f"]])
        self.assertEqual(kinds(Loop(rules, {"f": "p"})), [[name] for name in "bcdef"])
        self.assertEqual(kinds(Loop([*rules[:-1], ("f", ("any",), "y", True, "f")])), [[name] for name in "bcdef"])
        self.assertEqual(kinds(Loop([*rules[:-1], ("f", ("any",), "x", True, "b")], {"d": "p", "f": "p"})),
                         [["b"], ["c"], ["d"], ["e"], ["f"]])
        loop = Loop([("a", ("none",), "x", True, "b"), ("b", ("any",), "x", True, "c"), ("c", ("any",), "y", True, "d"),
                     ("d", ("any",), "x", True, "e"), ("e", ("any",), "y", True, "b")])
        self.assertEqual(kinds(loop), [["b", "d"], ["c", "e"]])

    def test_the_order_of_the_states(self):
        loop = Loop([("z", ("none",), "x", True, "m"), ("m", ("less",), "x", True, "c"), ("c", ("any",), "y", True, "a"),
                     ("m", ("any",), "x", True, "b"), ("b", ("any",), "x", True, "z"), ("a", ("any",), "y", True, "c")])
        self.assertEqual(loop.states, ("z", "m", "c", "a", "b"))
        self.assertEqual(met(loop), ("z", "m", "c", "a", "b"))
        found = kinds(loop)
        self.assertIn(["c", "a"], found)
        self.assertEqual(found, sorted(found, key=lambda states: loop.states.index(states[0])))
        self.assertEqual([type(found), type(found[0]), type(met(loop))], [list, list, tuple])

    def test_met_states_of_drawn_loops(self):
        for loop in self.drawn(111, 80):
            reached = lengths_alone(loop)
            self.assertEqual(met(loop), tuple(state for state in loop.states if (state, True) in reached), loop.text())

    def test_kinds_of_drawn_loops(self):
        counts = {}
        for loop in self.drawn(112, 80):
            found = kinds(loop)
            states = [state for together in found for state in together]
            self.assertEqual(sorted(states), sorted(met(loop)))
            for together in found:
                self.assertEqual(together, sorted(together, key=loop.states.index))
                counts[len(together)] = True
            number = {state: k for k, together in enumerate(found) for state in together}
            for one in states:
                for other in states:
                    self.assertEqual(number[one] != number[other], differ_on_some_row(loop, one, other), loop.text())
        self.assertTrue({1, 2} <= set(counts))

    def test_what_loops_do_from_states_on_drawn_rows(self):
        source = random.Random(113)
        for loop in [*self.drawn(114, 40), EXAMPLE]:
            rows = []
            for _ in range(30):
                e = source.randint(1, 4)
                kept = source.randint(-9, 9)
                rows.append((kept, [kept + source.randint(-3 * e, 3 * e) for _ in range(source.randint(0, 8))], e))
            for together in kinds(loop):
                for kept, row, e in rows:
                    done = [deeds_from(loop, state, kept, row, e) for state in together]
                    self.assertEqual(done, [done[0]] * len(together), loop.text())

    def test_equal_arguments_give_equal_values_and_new_lists(self):
        first, second = kinds(EXAMPLE), kinds(loop=Loop.parse(EXAMPLE.text()))
        self.assertEqual(first, second)
        first[0].append("x")
        first.append([])
        self.assertEqual(kinds(EXAMPLE), second)
        self.assertEqual(met(loop=EXAMPLE), ("b", "c"))


if __name__ == "__main__":
    unittest.main()
