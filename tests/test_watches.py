"""Point 17: watches, and what they do at a loop."""

import copy
import random
import unittest

from nearloops.errors import BadNumber, BadRow, BadTolerance, BadWatch, UnknownState
from nearloops.loops import Loop
from nearloops.places import PLACES, group
from nearloops.watches import Watch, apart, covered, watched
from tests.helpers import CHAIN, LEADER, MOST, NO_INTEGERS, NO_ROWS, PEAK, EqualToAll, NearCase, Unequal
from tests.lone_walks import random_watch, watch_behind
from tests.reference import random_pairs

RULE = ("a", ("near", "over"), ("new", "*"), "b")
NO_NAMES = ["", "A", "abcdefghi", "a b", "a1", "*", "**", b"a", None, 0, True, 1.0, ["a"], ("a",), {}, object(), Unequal(),
            EqualToAll()]
GROUPS = ["any", "near", "far", "less", "more", "under", "over", "cell", "none", *PLACES]


class BadWatchTest(NearCase):
    def fails(self, line, rules, alarms=()):
        """Check that a rule of a watch is wrong."""
        self.assertFails(BadWatch, line, Watch, rules, alarms)

    def test_no_rule(self):
        self.fails(1, [])
        self.fails(1, ())
        self.fails(1, [], ["a"])

    def test_names_of_states(self):
        for wrong in NO_NAMES:
            self.fails(1, [(wrong, *RULE[1:])])
            self.fails(2, [RULE, (*RULE[:3], wrong)])
        for name in ["a", "z", "abcdefgh", "answer", "none", "any"]:
            self.assertEqual(Watch([(name, *RULE[1:3], name)], []).states, (name,))

    def test_groups(self):
        for wrong in ["", "Near", "nears", "all", "*", "<=", "+", "no", None, 0, True, b"near", ["near"], ("near",), {},
                      object(), Unequal(), EqualToAll()]:
            self.fails(1, [("a", (wrong,), ("new",), "b")])
            self.fails(2, [RULE, ("a", ("near", wrong), ("new",), "b")])
        for wrong in [(), [], "near", "<", None, 0, {}, {"near": 1}, {"near"}, b"<", object(), Unequal(), EqualToAll()]:
            self.fails(3, [RULE, RULE, ("a", wrong, ("new",), "b")])
        for name in GROUPS:
            self.assertEqual(Watch([("a", [name], ["new"], "b")], []).rules, (("a", (name,), ("new",), "b"),))

    def test_words(self):
        for wrong in ["", "New", "abcdefghi", "**", " ", "*a", "new old", None, 0, True, b"*", ["new"], ("*",), {}, object(),
                      Unequal(), EqualToAll()]:
            self.fails(1, [("a", ("near",), (wrong,), "b")])
            self.fails(2, [RULE, ("a", ("near",), ("*", wrong), "b")])
            self.fails(2, [RULE, ("a", ("near",), (wrong, "*"), "b")])
        for wrong in [(), [], "new", "*", None, 0, {}, {"new": 1}, {"*"}, b"*", object(), Unequal(), EqualToAll()]:
            self.fails(1, [("a", ("near",), wrong, "b")])
        for word in ["*", "x", "abcdefgh", "pass"]:
            self.assertEqual(Watch([("a", ("near",), [word], "b")], []).rules, (("a", ("near",), (word,), "b"),))

    def test_rules_of_another_form(self):
        for wrong in [RULE[:3], (*RULE, "c"), (*RULE, True), (), [], "abcd", "", None, 0, True, b"abcd", {}, object(),
                      dict.fromkeys("abcd"), {"a", "b", "c", "d"}, Unequal(), EqualToAll(),
                      ("a", ("near",), "new", True, "b")]:
            self.fails(1, [wrong])
            self.fails(3, [RULE, RULE, wrong, wrong, RULE])

    def test_more_than_six_states(self):
        six = [(state, ("near",), ("*",), state) for state in "abcdef"]
        self.assertEqual(Watch(six, []).states, tuple("abcdef"))
        self.fails(7, [*six, ("g", ("near",), ("*",), "a")])
        self.fails(7, [*six, ("a", ("near",), ("*",), "g"), ("A", (), (), "")])
        self.fails(4, [("a", ("=",), ("*",), "b"), ("c", ("=",), ("*",), "d"), ("e", ("=",), ("*",), "f"),
                       ("f", ("=",), ("*",), "g")])
        self.fails(4, [("a", ("=",), ("*",), "b"), ("c", ("=",), ("*",), "d"), ("e", ("=",), ("*",), "f"),
                       ("g", ("=",), ("*",), "h")])
        # The first wrong rule counts, whatever is wrong with it.
        self.fails(6, [*six[:5], ("f", ("=",), (), "g"), ("h", ("=",), ("*",), "i")])

    def test_twenty_and_twenty_one_rules(self):
        self.assertEqual(len(Watch([RULE] * 20, []).rules), 20)
        self.fails(21, [RULE] * 21)
        self.fails(21, [RULE] * 20 + [None])
        self.fails(21, [RULE] * 30)
        self.fails(20, [RULE] * 19 + [None, None])

    def test_alarms(self):
        for wrong in [*NO_NAMES, "c", "near", "aa"]:
            for alarms in [[wrong], ["a", wrong], ["b", wrong, "zzz"], ("a", "b", wrong)]:
                with self.assertRaises(UnknownState) as caught:
                    Watch([RULE], alarms)
                self.assertIs(caught.exception.state, wrong)
        self.assertFails(UnknownState, "y", Watch, [RULE], ["y", "x"])
        self.assertFails(UnknownState, "y", Watch, alarms=["a", "y", 7], rules=[RULE])

    def test_rules_are_checked_before_alarms(self):
        self.fails(1, [(*RULE[:3], "B")], ["x"])
        self.fails(21, [RULE] * 21, [None])
        self.fails(2, [RULE, None], ["a", "x"])


class WatchTest(unittest.TestCase):
    RULES = [["b", ["near"], ["new", "pass"], "a"], ("a", ("=", "far", "none"), ("*",), "c"), ["b", ("any",), ["*"], "b"]]

    def test_properties(self):
        watch = Watch(self.RULES, ["c", "b", "c"])
        self.assertEqual(watch.rules, (("b", ("near",), ("new", "pass"), "a"), ("a", ("=", "far", "none"), ("*",), "c"),
                                       ("b", ("any",), ("*",), "b")))
        self.assertEqual([watch.states, watch.start, watch.alarms], [("b", "a", "c"), "b", ("b", "c")])
        self.assertEqual({type(rule) for rule in watch.rules}, {tuple})
        self.assertEqual([type(part) for part in watch.rules[0]], [str, tuple, tuple, str])
        self.assertEqual([type(watch.rules), type(watch.states), type(watch.alarms)], [tuple] * 3)

    def test_alarms_in_the_order_of_the_states_each_once(self):
        for given, alarms in [([], ()), ((), ()), (["a"], ("a",)), (("a", "a", "a"), ("a",)), (["c", "a"], ("a", "c")),
                              (["c", "a", "b", "a"], ("b", "a", "c"))]:
            self.assertEqual(Watch(self.RULES, given).alarms, alarms)

    def test_equality(self):
        watch = Watch(self.RULES, ["a", "c"])
        self.assertTrue(watch == Watch(tuple(tuple(rule) for rule in self.RULES), ("c", "a", "a")))
        self.assertFalse(watch != Watch(alarms=["c", "a"], rules=self.RULES))
        for other in [Watch(self.RULES, ["a"]), Watch(self.RULES, []), Watch(self.RULES[:2], ["a", "c"]),
                      Watch([*self.RULES[:2], ["b", ("any",), ["*", "*"], "b"]], ["a", "c"]),
                      Watch([self.RULES[0], ("a", ("far", "=", "none"), ("*",), "c"), self.RULES[2]], ["a", "c"]),
                      Watch([["b", ["near"], ["pass", "new"], "a"], *self.RULES[1:]], ["a", "c"])]:
            self.assertFalse(watch == other)
            self.assertTrue(watch != other)
        for other in [None, 0, "watch", (watch.rules, watch.alarms), object(), LEADER, Unequal()]:
            self.assertIs(watch == other, False)
            self.assertIs(watch != other, True)
        self.assertIs(watch.__eq__(EqualToAll()), False)

    def test_immutable(self):
        watch = Watch(self.RULES, ["a"])
        for name in ["rules", "states", "start", "alarms"]:
            with self.assertRaises(AttributeError):
                setattr(watch, name, ())
        self.assertEqual(watch, Watch(self.RULES, ["a"]))

    def test_later_changes_have_no_effect(self):
        rules, alarms = copy.deepcopy(self.RULES), ["a"]
        watch, before = Watch(rules, alarms), copy.deepcopy(rules)
        self.assertEqual((rules, alarms), (before, ["a"]))
        rules[0][1].append("far")
        rules[0][2][0] = "old"
        rules[0][3] = "z"
        rules.pop()
        alarms.append("c")
        self.assertEqual(watch, Watch(self.RULES, ["a"]))

    def test_the_two_watches_of_the_document(self):
        first = Watch([("wait", ("=",), ("new",), "seen"), ("seen", ("near",), ("new",), "bad")], ["bad"])
        self.assertEqual(apart("new"), first)
        self.assertEqual(apart(word="new").rules, first.rules)
        second = Watch([("wait", ("near",), ("new",), "good"), ("wait", ("=",), ("*",), "bad"),
                        ("bad", ("near",), ("new",), "good")], ["bad"])
        self.assertEqual(covered("new"), second)
        self.assertEqual(covered(word="new").rules, second.rules)
        for make in (apart, covered):
            self.assertEqual(make("new").alarms, ("bad",))
            self.assertNotEqual(make("new"), make("old"))
            self.assertEqual(make("abcdefgh").rules[0][2], ("abcdefgh",))
        self.assertEqual(apart("x").states, ("wait", "seen", "bad"))
        self.assertEqual(covered("x").states, ("wait", "good", "bad"))


class WatchedTest(NearCase):
    def test_example(self):
        watch = apart("new")
        self.assertTrue(watched(LEADER, watch, [0, 2, 0], 1, 0) in watch.alarms)

    def test_a_row_of_no_numbers(self):
        for watch in [apart("new"), covered("new"), Watch([RULE], ["a"])]:
            self.assertEqual(watched(LEADER, watch, [], 1, 0), watch.start)
            self.assertEqual(watched(LEADER, watch, (), MOST, -MOST), watch.start)

    def test_each_place_at_the_number_of_the_watch(self):
        plain = Loop([("a", ("none", "any"), "x", True, "a")])
        for name in GROUPS:
            watch = Watch([("a", (name,), ("x",), "b")], [])
            for x in range(-14, 15):
                cell, rest = x // 5 - 2 // 5, x % 5
                sign = "<" if rest < 2 else "=" if rest == 2 else ">"
                at = "below" if cell < -1 else "above" if cell > 1 else {-1: "-", 0: "", 1: "+"}[cell] + sign
                places = group(name)
                self.assertEqual(watched(plain, watch, [x], 5, 2), "b" if at in places else "a", (name, x))

    def test_the_number_of_the_watch_never_changes(self):
        watch = Watch([("a", ("=",), ("*",), "b"), ("b", ("=",), ("*",), "a")], [])
        self.assertEqual([watched(CHAIN, watch, [4, 5, 4, 4, 9, 4][:count], 2, 4) for count in range(7)],
                         ["a", "b", "b", "a", "b", "b", "a"])
        self.assertEqual(watched(CHAIN, watch, [0] * 7, 2, 4), "a")

    def test_words(self):
        rules = [("a", ("any",), ("join", "odd"), "b"), ("b", ("any",), ("new",), "c"), ("c", ("any",), ("*",), "a")]
        watch = Watch(rules, [])
        states = [watched(CHAIN, watch, [0, 9, 9, 9, 20, 20][:count], 3, 0) for count in range(7)]
        self.assertEqual(states, ["a", "a", "a", "b", "b", "c", "a"])
        # The word that is told where no rule of the loop fits is a word, too.
        watch = Watch([("a", ("any",), ("pass",), "b")], [])
        self.assertEqual([watched(LEADER, watch, row, 3, 0) for row in ([5], [5, 9], [5, 6])], ["a", "a", "b"])

    def test_the_first_rule_that_fits_is_used(self):
        watch = Watch([("a", ("near",), ("new",), "b"), ("a", ("any",), ("*",), "c"), ("a", ("any",), ("*",), "d"),
                       ("b", ("none",), ("*",), "d")], [])
        self.assertEqual([watched(LEADER, watch, row, 3, 0) for row in ([3], [4], [-3], [-4], [4, 4], [3, 4], [9, 3])],
                         ["b", "c", "b", "c", "c", "b", "c"])

    def test_no_group_has_the_place_none(self):
        watch = Watch([("a", ("none",), ("*",), "b")], [])
        self.assertEqual(watched(LEADER, watch, [0, 1, 5, 99], 3, 0), "a")

    def test_drawn_watches(self):
        source = random.Random(71)
        for loop, _ in random_pairs(72, 60):
            watch = random_watch(source, ["x", "y", "pass"])
            for _ in range(10):
                e = source.randint(1, 5)
                row = [source.randint(-3 * e, 3 * e) for _ in range(source.randint(0, 8))]
                number = source.randint(-2 * e, 2 * e)
                self.assertEqual(watched(loop, watch, row, e, number), watch_behind(loop, watch, row, e, number))

    def test_a_thousand_numbers_of_thirty_digits(self):
        watch = covered("new")
        self.assertEqual(watched(LEADER, watch, [MOST, -MOST] * 500, MOST, 0), "good")
        self.assertEqual(watched(LEADER, watch, [MOST, -MOST] * 500, MOST - 1, 0), "wait")
        self.assertEqual(watched(LEADER, watch, [MOST, -MOST] * 500, MOST - 1, -MOST), "good")
        self.assertEqual(watched(PEAK, apart("rise"), tuple(range(1000)), 1, MOST), "wait")

    def test_errors_in_their_order(self):
        watch = apart("new")
        for thing in NO_ROWS:
            self.assertRaises(BadRow, watched, LEADER, watch, thing, 0, None)
        self.assertRaises(BadRow, watched, LEADER, watch, [None] * 1001, 0, None)
        for thing in [*NO_INTEGERS, MOST + 1, -MOST - 1]:
            self.assertFails(BadNumber, thing, watched, LEADER, watch, [0, thing, None], 0, None)
            self.assertFails(BadNumber, thing, watched, LEADER, watch, [0, 1], 0, thing)
            self.assertFails(BadNumber, thing, watched, LEADER, watch, [], None, number=thing)
        for thing in [*NO_INTEGERS, 0, -1, MOST + 1]:
            self.assertFails(BadTolerance, thing, watched, LEADER, watch, [0, 1], thing, 0)
        self.assertEqual(watched(number=-MOST, tolerance=MOST, row=[MOST], watch=watch, loop=LEADER), "wait")

    def test_arguments_stay_as_they_were(self):
        row, watch = [0, 5, 0], covered("new")
        self.assertEqual(watched(LEADER, watch, row, 1, 0), "good")
        self.assertEqual(row, [0, 5, 0])
        self.assertEqual(watch, covered("new"))


if __name__ == "__main__":
    unittest.main()
