"""Points 1, 2, 6 and 7: loops that are made from rules."""

import copy
import unittest

from nearloops.errors import BadAnswer, BadGroup, BadLoop, UnknownState
from nearloops.loops import Loop
from nearloops.places import PLACES, group
from tests.helpers import EqualToAll, NearCase, Unequal

GOOD = ("a", ("near",), "old", False, "a")
NO_NAMES = ["", "aaaaaaaaa", "A", "aB", "a1", "a_b", "a b", "a\n", "\u00e9", "\u00df", b"a", None, 0, True, ["a"], ("a",)]


def changed(at, thing):
    """Return a good rule with another item at an index."""
    rule = list(GOOD)
    rule[at] = thing
    return tuple(rule)


def many_rules(count):
    """Return a list of good rules."""
    return [GOOD] * count


def states_in_a_line(count):
    """Return rules that lead through as many states."""
    names = "abcdefgh"
    return [(names[k], ("any",), "go", False, names[k + 1]) for k in range(count - 1)]


class RulesTest(NearCase):
    def test_rules_are_kept_in_order(self):
        rules = [("a", ["near", "+>", "near"], "old", True, "b"), ["b", ("none",), "new", False, "a"]]
        loop = Loop(rules)
        expected = (
            ("a", ("near", "+>", "near"), "old", True, "b"),
            ("b", ("none",), "new", False, "a"),
        )
        self.assertEqual(loop.rules, expected)
        self.assertIsInstance(loop.rules, tuple)
        self.assertEqual([type(rule) for rule in loop.rules], [tuple, tuple])
        self.assertEqual([type(rule[1]) for rule in loop.rules], [tuple, tuple])
        self.assertIs(loop.rules[0][3], True)
        self.assertEqual(len(loop), 2)

    def test_rules_may_be_a_tuple(self):
        self.assertEqual(Loop((GOOD, list(GOOD))), Loop([GOOD, GOOD]))

    def test_every_group_is_allowed(self):
        names = ["any", "near", "far", "less", "more", "under", "over", "cell", "none", *PLACES]
        self.assertEqual(Loop([changed(1, names)]).rules[0][1], tuple(names))

    def test_names_have_one_to_eight_letters(self):
        for name in ["a", "z", "abcdefgh", "ijklmnop", "qrstuvwx", "answer", "keep", "none"]:
            for at in [0, 2, 4]:
                self.assertEqual(Loop([changed(at, name)]).rules[0][at], name)
            self.assertEqual(Loop([GOOD], {"a": name}).answers, {"a": name})

    def test_what_is_no_name(self):
        for thing in NO_NAMES:
            for at in [0, 2, 4]:
                self.assertFails(BadLoop, 1, Loop, [changed(at, thing)])
                self.assertFails(BadLoop, 2, Loop, [GOOD, changed(at, thing), changed(0, "")])
        self.assertFails(BadLoop, 1, Loop, [changed(0, Unequal())])

    def test_what_are_no_groups(self):
        wrong = [(), [], "near", "=", None, True, 0, {"near": 1}, ("nearby",), ("near", ""), ("near", None),
                 ("near", ["far"]), (0,), ("near", "NEAR"), (Unequal(),), (EqualToAll(),)]
        for thing in wrong:
            self.assertFails(BadLoop, 1, Loop, [changed(1, thing)])
            self.assertFails(BadLoop, 3, Loop, [GOOD, GOOD, changed(1, thing), GOOD])

    def test_keeps_is_true_or_false(self):
        for thing in [0, 1, None, "", "keep", "True", [], 1.0]:
            self.assertFails(BadLoop, 1, Loop, [changed(3, thing)])
        self.assertEqual([Loop([changed(3, keeps)]).rules[0][3] for keeps in [True, False]], [True, False])

    def test_what_has_not_the_form_of_a_rule(self):
        for thing in [None, 0, True, "a", "abcde", (), GOOD[:4], GOOD + ("a",), {}, {k: k for k in range(5)}]:
            self.assertFails(BadLoop, 1, Loop, [thing])
            self.assertFails(BadLoop, 2, Loop, [GOOD, thing, GOOD])

    def test_there_is_a_rule(self):
        self.assertFails(BadLoop, 1, Loop, [])
        self.assertFails(BadLoop, 1, Loop, ())
        self.assertFails(BadLoop, 1, Loop, [], {"a": "A"})

    def test_there_are_at_most_forty_rules(self):
        self.assertEqual(len(Loop(many_rules(40))), 40)
        self.assertFails(BadLoop, 41, Loop, many_rules(41))
        self.assertFails(BadLoop, 41, Loop, many_rules(60))
        self.assertFails(BadLoop, 41, Loop, many_rules(40) + [None])
        self.assertFails(BadLoop, 40, Loop, many_rules(39) + [None] + many_rules(9))

    def test_there_are_at_most_six_states(self):
        self.assertEqual(Loop(states_in_a_line(6)).states, ("a", "b", "c", "d", "e", "f"))
        self.assertFails(BadLoop, 6, Loop, states_in_a_line(7))
        self.assertFails(BadLoop, 6, Loop, states_in_a_line(8))
        self.assertFails(BadLoop, 7, Loop, states_in_a_line(6) + [GOOD, ("g", ("any",), "go", False, "a")])
        self.assertFails(BadLoop, 7, Loop, states_in_a_line(6) + [GOOD, ("a", ("any",), "go", False, "g")])
        three = [(one, ("any",), "go", False, other) for one, other in ["ab", "cd", "ef", "gh"]]
        self.assertFails(BadLoop, 4, Loop, three)
        self.assertEqual(len(Loop(three[:3]).states), 6)

    def test_the_first_wrong_rule_is_named(self):
        self.assertFails(BadLoop, 2, Loop, [GOOD, None] + states_in_a_line(8))
        self.assertFails(BadLoop, 6, Loop, states_in_a_line(7) + [None])
        self.assertFails(BadLoop, 6, Loop, states_in_a_line(7) + many_rules(40))

    def test_a_rule_comes_before_the_answers(self):
        self.assertFails(BadLoop, 1, Loop, [None], {"x": "X"})
        self.assertFails(BadLoop, 41, Loop, many_rules(41), {"x": "X"})


class StatesTest(NearCase):
    def test_states_are_in_the_order_of_their_first_occurrence(self):
        rules = [
            ("m", ("any",), "w", False, "z"),
            ("b", ("any",), "w", False, "m"),
            ("z", ("any",), "w", False, "a"),
        ]
        loop = Loop(rules)
        self.assertEqual(loop.states, ("m", "z", "b", "a"))
        self.assertIsInstance(loop.states, tuple)
        self.assertEqual(loop.start, "m")
        self.assertEqual(list(loop.answers), ["m", "z", "b", "a"])

    def test_a_state_may_occur_as_a_next_state_alone(self):
        self.assertEqual(Loop([changed(4, "end")]).states, ("a", "end"))


class AnswersTest(NearCase):
    def test_answers_are_empty_where_none_is_given(self):
        rules = states_in_a_line(3)
        empty = {"a": "", "b": "", "c": ""}
        for given in [None, {}, {"b": ""}]:
            self.assertEqual(Loop(rules, given).answers, empty)
        self.assertEqual(Loop(rules).answers, empty)
        loop = Loop(rules, {"c": "end", "a": "go"})
        self.assertEqual(list(loop.answers.items()), [("a", "go"), ("b", ""), ("c", "end")])
        self.assertEqual(Loop(rules=rules, answers={"b": "x"}).answers["b"], "x")

    def test_answers_for_what_is_no_state(self):
        rules = states_in_a_line(3)
        self.assertFails(UnknownState, "d", Loop, rules, {"d": "go"})
        self.assertFails(UnknownState, "", Loop, rules, {"": "go"})
        self.assertFails(UnknownState, "A", Loop, rules, {"e": "", "b": "", "d": "", "A": ""})
        self.assertFails(UnknownState, "d", Loop, rules, {"e": "", "b": "", "d": ""})
        self.assertFails(UnknownState, "abcdefghi", Loop, rules, {"z": "", "abcdefghi": ""})

    def test_what_is_no_answer(self):
        for thing in NO_NAMES:
            if thing != "":
                self.assertFails(BadAnswer, thing, Loop, [GOOD], {"a": thing})
        self.assertRaises(BadAnswer, Loop, [GOOD], {"a": Unequal()})
        self.assertRaises(BadAnswer, Loop, [GOOD], {"a": EqualToAll()})

    def test_the_first_wrong_answer_in_the_order_of_the_states_is_named(self):
        rules = [("c", ("any",), "w", False, "a"), ("b", ("any",), "w", False, "c")]
        self.assertFails(BadAnswer, 3, Loop, rules, {"a": 1, "b": 2, "c": 3})
        self.assertFails(BadAnswer, 1, Loop, rules, {"b": 2, "a": 1, "c": ""})

    def test_an_unknown_state_comes_before_a_wrong_answer(self):
        self.assertFails(UnknownState, "x", Loop, [GOOD], {"a": "A", "x": "X"})


class FittingTest(NearCase):
    def test_the_first_rule_that_fits_is_used(self):
        rules = [
            ("a", ("none", "+>"), "new", True, "b"),
            ("a", ("near",), "old", False, "a"),
            ("b", ("=",), "same", False, "b"),
            ("a", ("any",), "far", True, "a"),
            ("b", ("near", "above"), "near", False, "a"),
            ("a", ("none",), "never", True, "a"),
        ]
        loop = Loop(rules)
        for state in loop.states:
            for place in [*PLACES, "none"]:
                fits = [
                    at for at, rule in enumerate(rules)
                    if rule[0] == state and (place in rule[1] or any(place in group(name) for name in rule[1]))
                ]
                expected = fits[0] if fits else None
                self.assertEqual(loop.fitting(state, place), expected, (state, place))
        self.assertEqual(loop.fitting("a", "none"), 0)
        self.assertEqual(loop.fitting("a", "+>"), 0)
        self.assertEqual(loop.fitting("a", "="), 1)
        self.assertEqual(loop.fitting("a", "below"), 3)
        self.assertIsNone(loop.fitting("b", "none"))
        self.assertIsNone(loop.fitting("b", "below"))

    def test_any_has_the_eleven_places_but_not_none(self):
        loop = Loop([changed(1, ["any"])])
        self.assertEqual([loop.fitting("a", place) for place in PLACES], [0] * 11)
        self.assertIsNone(loop.fitting("a", "none"))

    def test_none_has_no_place(self):
        loop = Loop([changed(1, ["none"])])
        self.assertEqual([loop.fitting("a", place) for place in PLACES], [None] * 11)
        self.assertEqual(loop.fitting("a", "none"), 0)

    def test_a_state_without_rules(self):
        loop = Loop([changed(4, "end")])
        self.assertEqual([loop.fitting("end", place) for place in [*PLACES, "none"]], [None] * 12)

    def test_the_last_of_forty_rules(self):
        loop = Loop(many_rules(39) + [changed(1, ["far"])])
        self.assertEqual(loop.fitting("a", "above"), 39)

    def test_what_is_no_state(self):
        loop = Loop(states_in_a_line(3))
        for thing in ["d", "", "A", None, True, 0, ["a"], ("a",), {}, b"a"]:
            self.assertFails(UnknownState, thing, loop.fitting, thing, "=")
        self.assertRaises(UnknownState, loop.fitting, Unequal(), "=")
        self.assertRaises(UnknownState, loop.fitting, EqualToAll(), "=")

    def test_what_is_no_place(self):
        loop = Loop(states_in_a_line(3))
        for thing in ["any", "near", "cell", "", "None", None, True, 0, ["="], ("=",), {}]:
            self.assertFails(BadGroup, thing, loop.fitting, "a", thing)
        self.assertRaises(BadGroup, loop.fitting, "a", Unequal())
        self.assertRaises(BadGroup, loop.fitting, "a", EqualToAll())

    def test_the_state_is_looked_at_first(self):
        loop = Loop([GOOD])
        self.assertFails(UnknownState, "x", loop.fitting, "x", "near")
        self.assertFails(BadGroup, "near", loop.fitting, place="near", state="a")


class EqualTest(unittest.TestCase):
    def test_equal_loops(self):
        one = Loop([("a", ["near", "far"], "old", True, "b")], {"b": "seen"})
        other = Loop((["a", ("near", "far"), "old", True, "b"],), {"a": "", "b": "seen"})
        self.assertTrue(one == other)
        self.assertFalse(one != other)

    def test_other_loops(self):
        rule = ("a", ("near", "far"), "old", True, "b")
        loop = Loop([rule])
        others = [
            Loop([("c", ("near", "far"), "old", True, "b")]),
            Loop([("a", ("far", "near"), "old", True, "b")]),
            Loop([("a", ("near", "far", "far"), "old", True, "b")]),
            Loop([("a", ("any",), "old", True, "b")]),
            Loop([("a", ("near", "far"), "new", True, "b")]),
            Loop([("a", ("near", "far"), "old", False, "b")]),
            Loop([("a", ("near", "far"), "old", True, "a")]),
            Loop([rule, rule]),
            Loop([rule], {"a": "x"}),
            Loop([rule], {"b": "x"}),
        ]
        for other in others:
            self.assertFalse(loop == other)
            self.assertTrue(loop != other)
        self.assertFalse(Loop([rule], {"b": "x"}) == Loop([rule], {"b": "y"}))
        self.assertFalse(Loop([rule, GOOD]) == Loop([GOOD, rule]))

    def test_other_kinds(self):
        loop = Loop([GOOD])
        for thing in [None, 1, True, loop.rules, list(loop.rules), loop.text(), {}, object(), EqualToAll()]:
            self.assertFalse(loop == thing)
            self.assertTrue(loop != thing)


class CopyTest(NearCase):
    def test_arguments_stay_as_they_were(self):
        rules = [["b", ["near", "far"], "old", True, "a"], ("a", ["none"], "new", False, "b")]
        answers = {"b": "x", "a": ""}
        before = copy.deepcopy((rules, answers))
        Loop(rules, answers).fitting("a", "=")
        self.assertEqual((rules, answers), before)
        self.assertEqual(list(answers), ["b", "a"])
        self.assertIsInstance(rules[0][1], list)
        rules.append(["a", ["far"], "old", 1, "a"])
        before = copy.deepcopy(rules)
        self.assertFails(BadLoop, 3, Loop, rules, answers)
        self.assertEqual(rules, before)

    def test_loops_copy_what_they_are_passed(self):
        rules = [["a", ["near"], "old", True, "b"]]
        answers = {"b": "seen"}
        loop = Loop(rules, answers)
        rules[0][1].append("far")
        rules[0][2] = "new"
        rules.append(GOOD)
        answers["b"] = "lost"
        answers["a"] = "lost"
        self.assertEqual(loop.rules, (("a", ("near",), "old", True, "b"),))
        self.assertEqual(loop.answers, {"a": "", "b": "seen"})
        self.assertIsNone(loop.fitting("a", "above"))
        self.assertEqual(loop.text(), "a near: old keep -> b\nanswer b seen")

    def test_what_a_loop_returns_can_be_changed_without_changing_it(self):
        loop = Loop([GOOD], {"a": "seen"})
        loop.answers["a"] = "lost"
        loop.answers.clear()
        self.assertEqual(loop.answers, {"a": "seen"})
        self.assertIsNot(loop.answers, loop.answers)

    def test_properties_cannot_be_assigned(self):
        loop = Loop([GOOD], {"a": "seen"})
        for name in ["rules", "states", "start", "answers"]:
            with self.assertRaises(AttributeError):
                setattr(loop, name, ())

    def test_equal_arguments_give_equal_values(self):
        made = [Loop(states_in_a_line(6), {"f": "x", "b": "y"}) for _ in range(2)]
        self.assertEqual(made[0], made[1])
        self.assertEqual(made[0].text(), made[1].text())
        self.assertEqual(list(made[0].answers.items()), list(made[1].answers.items()))


if __name__ == "__main__":
    unittest.main()
