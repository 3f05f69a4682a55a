"""Points 11 and 16: whether two loops do the same, and where they do not."""

import unittest

from nearloops.errors import BadKind
from nearloops.joints import joint, leads
from nearloops.loops import Loop
from nearloops.partings import parting, same
from nearloops.runs import run
from tests.helpers import CELLS, CHAIN, LEADER, MOST, PEAK, EqualToAll, NearCase, Unequal
from tests.reference import differs, explored, few_numbers, random_pairs

KINDS = ["words", "keeps", "answers", "all"]
STONE = Loop.parse("a none: go keep -> a")
NO_KINDS = ["", "word", "ALL", "Words", "any", "none", None, True, False, 0, 1, b"all", ["all"], ("all",), {},
            {"all": 1}, object()]


def up(groups, keeps, most, answer="up"):
    """Return a loop that goes up with numbers of these groups in turn, and answers when it has read so many."""
    names = "abcdef"
    rules = [("a", ("none",), "go", True, "a")]
    for k in range(most):
        rules.append((names[k], (groups[k % len(groups)],), "go", keeps[k % len(keeps)], names[k + 1]))
        rules.append((names[k], ("any",), "go", False, "a"))
    return Loop(rules, {names[most]: answer})


def parted(one, other, row, tolerance):
    """Return the kinds by which two runs differ."""
    first, second = run(one, row, tolerance), run(other, row, tolerance)
    found = {"words": first.words != second.words, "keeps": first.keeps != second.keeps,
             "answers": first.answer != second.answer}
    found["all"] = any(found.values())
    return [kind for kind in KINDS if found[kind]]


class PartingCase(NearCase):
    def check(self, one, other, by, length):
        """Check that a shortest row of this length, or none, parts two loops."""
        found = parting(one, other, by)
        self.assertIs(same(one, other, by), found is None)
        self.assertEqual(None if found is None else len(found[0]), length, (one.text(), other.text(), by))
        if found is None:
            return
        row, tolerance = found
        self.assertEqual([type(found), type(row), type(tolerance)], [tuple, list, int])
        self.assertIn(by, parted(one, other, row, tolerance))
        self.assertTrue(1 <= tolerance <= MOST and all(type(x) is int and abs(x) <= MOST for x in row))
        # It differs at its end: a beginning of it would be a shorter row.
        self.assertFalse(row and differs(one, other, row[:-1], tolerance, by))


class KindsTest(PartingCase):
    def test_examples(self):
        self.assertIs(same(LEADER, LEADER), True)
        self.assertIs(same(LEADER, CHAIN, "answers"), True)
        self.assertEqual(len(parting(LEADER, CELLS)[0]), 2)

    def test_known_loops(self):
        for one, other, lengths in [
            (LEADER, CHAIN, [2, 2, None, 2]),
            (LEADER, CELLS, [2, 2, None, 2]),
            (CHAIN, CELLS, [2, 2, None, 2]),
            (PEAK, LEADER, [2, 2, 2, 2]),
            (PEAK, PEAK, [None] * 4),
        ]:
            for by, length in zip(KINDS, lengths):
                self.check(one, other, by, length)
                self.check(other, one, by, length)

    def test_loops_that_differ_in_one_thing(self):
        rules = [("a", ("none",), "x", True, "b"), ("b", ("over",), "x", False, "c"), ("c", ("=",), "x", True, "d")]
        plain = Loop(rules, {"d": "end"})
        word = Loop(rules[:2] + [("c", ("=",), "y", True, "d")], {"d": "end"})
        keeps = Loop(rules[:2] + [("c", ("=",), "x", False, "d")], {"d": "end"})
        answer = Loop(rules, {"d": "stop"})
        for other, lengths in [(plain, [None] * 4), (word, [3, None, None, 3]), (keeps, [None, 3, None, 3]),
                               (answer, [None, None, 3, 3])]:
            for by, length in zip(KINDS, lengths):
                self.check(plain, other, by, length)
                self.check(other, plain, by, length)

    def test_all_takes_the_first_difference_of_any_kind(self):
        one = Loop([("a", ("none", "any"), "x", False, "b"), ("b", ("none",), "x", False, "c")], {"c": "end"})
        other = Loop([("a", ("none", "any"), "x", False, "b"), ("b", ("none",), "y", True, "c")], {"c": "stop"})
        for by in KINDS:
            self.check(one, other, by, 2)
        other = Loop(other.rules, {"b": "stop", "c": "end"})
        for by, length in zip(KINDS, [2, 2, 1, 1]):
            self.check(one, other, by, length)

    def test_all_is_the_default(self):
        one = Loop([("a", ("none",), "x", True, "a")], {"a": "p"})
        self.assertEqual(parting(STONE, one), parting(STONE, one, "all"))
        self.assertEqual(parting(STONE, one), ([], 1))
        self.assertIs(same(STONE, one), False)
        never = Loop([("a", ("none",), "go", False, "b")])
        other_word = Loop([("a", ("none",), "stay", True, "a")])
        self.assertEqual([same(STONE, loop) for loop in (STONE, never, other_word)], [True, False, False])
        self.assertIs(same(by="keeps", other=one, one=STONE), True)
        self.assertIsNone(parting(by="keeps", other=one, one=STONE))

    def test_the_row_of_no_numbers(self):
        one = Loop([("a", ("none",), "x", True, "b")], {"a": "p"})
        other = Loop([("a", ("none",), "y", False, "b")])
        self.assertEqual(parting(one, other, "answers"), ([], 1))
        self.assertEqual(parting(one, other, "all"), ([], 1))
        self.check(one, other, "words", 1)
        self.check(one, other, "keeps", 1)

    def test_what_is_no_kind(self):
        for thing in NO_KINDS:
            self.assertFails(BadKind, thing, parting, LEADER, CHAIN, thing)
            self.assertFails(BadKind, thing, same, LEADER, LEADER, thing)
            self.assertFails(BadKind, thing, same, LEADER, LEADER, by=thing)
        for odd in [Unequal(), EqualToAll()]:
            for call in [same, parting]:
                with self.assertRaises(BadKind) as caught:
                    call(LEADER, LEADER, odd)
                self.assertIs(caught.exception.by, odd)


class SameTest(PartingCase):
    def test_states_with_other_names(self):
        for loop in [LEADER, CHAIN, CELLS, PEAK]:
            names = {state: "xyz"[k] for k, state in enumerate(loop.states)}
            rules = [(names[rule[0]], *rule[1:4], names[rule[4]]) for rule in loop.rules]
            renamed = Loop(rules, {names[state]: answer for state, answer in loop.answers.items()})
            for by in KINDS:
                self.check(loop, renamed, by, None)

    def test_more_states_and_rules_for_the_same(self):
        twice = Loop.parse("a none over: new keep -> b\na under: new keep -> a\na near: pass pass -> b\n"
                           "b below -< +> above: new keep -> a\nb none: never keep -> b")
        for by in KINDS:
            self.check(LEADER, twice, by, None)

    def test_differences_that_are_never_reached(self):
        one = Loop([("a", ("none",), "x", True, "a"), ("b", ("any",), "x", True, "b")], {"b": "p"})
        for by in KINDS:
            self.check(one, STONE, by, 1 if by in ("words", "all") else None)
        other = Loop([("a", ("none",), "x", True, "a"), ("b", ("any",), "y", False, "b")], {"b": "q"})
        for by in KINDS:
            self.check(one, other, by, None)

    def test_kept_numbers_that_lie_far_apart_without_a_difference(self):
        walker = Loop.parse("a none near: go keep -> a\na far: go pass -> a")
        still = Loop.parse("a none: go keep -> a\na any: go pass -> a")
        for by, length in [("words", None), ("answers", None), ("keeps", 2), ("all", 2)]:
            self.check(walker, still, by, length)
            self.check(still, walker, by, length)

    def test_one_keeps_the_word_none_the_number(self):
        never = Loop([("a", ("none", "any"), "x", False, "a")])
        always = Loop([("a", ("none", "any"), "x", True, "a")])
        for by, length in zip(KINDS, [None, 1, None, 1]):
            self.check(never, always, by, length)

    def test_rests_alone_can_part_loops(self):
        one = Loop([("a", ("none", ">"), "x", True, "a"), ("a", ("<", "="), "y", False, "a")])
        other = Loop([*one.rules[:1], ("a", ("<",), "y", False, "a"), ("a", ("=",), "z", False, "a")])
        self.check(one, other, "words", 2)
        other = Loop([("a", ("none", ">"), "x", True, "b"), ("b", (">",), "x", True, "c"),
                      ("c", (">",), "x", False, "c"), ("b", ("<", "="), "y", False, "b"),
                      ("c", ("<", "="), "y", False, "c")])
        self.check(one, other, "keeps", 3)
        self.check(one, other, "words", 4)
        row, tolerance = parting(one, other, "words")
        self.assertGreaterEqual(tolerance, 3)
        self.assertEqual(len({x // tolerance for x in row}), 1)


class ShortestTest(PartingCase):
    def test_no_row_of_few_numbers_parts_where_a_longer_one_is_returned(self):
        rows = list(few_numbers(2))
        lengths = []
        for one, other in random_pairs(21, 120):
            for by in KINDS:
                found = parting(one, other, by)
                parts = [len(row) for row, tolerance in rows if differs(one, other, row, tolerance, by)]
                if found is None or len(found[0]) > 2:
                    self.assertEqual(parts, [], (one.text(), other.text(), by))
                else:
                    self.assertEqual(min(parts), len(found[0]), (one.text(), other.text(), by))
                lengths.append(None if found is None else len(found[0]))
        for length in [None, 0, 1, 2]:
            self.assertGreater(lengths.count(length), 20)

    def test_lengths_are_those_of_an_exploration(self):
        lengths = {}
        for one, other in random_pairs(22, 400):
            _, partings = explored(one, other, 9)
            for by in KINDS:
                self.check(one, other, by, partings.get(by))
                lengths[partings.get(by)] = True
        self.assertTrue({None, 0, 1, 2, 3, 4} <= set(lengths))

    def test_rows_of_three_numbers(self):
        rows = list(few_numbers(3, 2))
        long = [(one, other) for one, other in random_pairs(22, 400) if len((parting(one, other) or [[]])[0]) > 3]
        self.assertGreaterEqual(len(long), 1)
        for one, other in long[:3]:
            self.assertFalse(any(differs(one, other, row, tolerance, "all") for row, tolerance in rows))

    def test_loops_that_go_up_many_steps_before_they_differ(self):
        for groups in [["+="], ["-="], ["+<"], ["+>"], ["above"], ["below"], ["+=", "above"], ["-<", "below"]]:
            for most in [2, 3, 4, 5]:
                self.check(STONE, up(groups, [True], most), "answers", most + 1)
                self.check(up(groups, [True], most), STONE, "answers", most + 1)
                self.check(STONE, up(groups, [True], most, ""), "answers", None)
        # By one cell with every second number, and up and down again.
        for groups, keeps in [(["+=", "="], [True]), (["+=", "over"], [True, False]), (["+=", "-="], [True])]:
            self.check(STONE, up(groups, keeps, 5), "answers", 6)
            self.check(up(groups, keeps, 5), STONE, "answers", 6)
        row, tolerance = parting(STONE, up(["+="], [True], 5), "answers")
        self.assertEqual(joint(STONE, up(["+="], [True], 5), row, tolerance)[2], (5, "="))
        row, tolerance = parting(up(["-="], [True], 5), STONE, "answers")
        self.assertEqual(joint(up(["-="], [True], 5), STONE, row, tolerance)[2], (5, "="))

    def test_one_step_lengths_and_two(self):
        # Both go up by one cell with each number, but for the last one, with which one of them goes up by two.
        one = up(["+="], [True], 5)
        other = Loop([*up(["+="], [True], 4).rules, ("e", ("above",), "go", True, "f")], {"f": "up"})
        self.check(one, other, "answers", 6)
        self.check(one, other, "keeps", 6)
        self.check(one, other, "words", 6)
        self.check(one, up(["+=", "+="], [True, False], 5), "keeps", 3)
        self.check(one, up(["+=", "+="], [True, False], 5), "answers", 6)

    def test_both_go_up_and_then_differ(self):
        # The words have other periods, and differ late.
        def counting(many, words):
            names = "abcdef"
            rules = [("a", ("none",), words[0], True, names[1])]
            rules += [(names[k], ("near", "far"), words[k], True, names[(k + 1) % many]) for k in range(many)]
            return Loop(rules)
        one, other = counting(5, "xxyxx"), counting(6, "xxyxxx")
        self.check(one, other, "words", 8)
        self.check(one, other, "keeps", None)
        self.check(counting(5, "xyxxy"), counting(3, "xyx"), "words", 7)
        self.check(counting(2, "xy"), counting(6, "xyxyxy"), "words", None)

    def test_each_step_of_a_returned_row_leads_on(self):
        one, other = up(["+="], [True], 5), up(["-="], [True], 5)
        row, tolerance = parting(one, other, "answers")
        states = [joint(one, other, row[:count], tolerance) for count in range(len(row) + 1)]
        for state, later in zip(states, states[1:]):
            self.assertTrue(leads(one, other, state, later))

    def test_equal_arguments_give_equal_values_and_new_lists(self):
        one, other = up(["+="], [True], 4), up(["-<"], [True], 4)
        first, second = parting(one, other), parting(Loop.parse(one.text()), Loop.parse(other.text()))
        self.assertEqual(first, second)
        self.assertIsNot(first[0], second[0])
        text = one.text(), other.text()
        first[0].append(1)
        self.assertEqual(parting(one, other), second)
        self.assertEqual((one.text(), other.text()), text)

    def test_many_states_and_rules(self):
        # Loops of six states that move everywhere and tell the same word: nothing but the keeps can differ.
        names, places = "abcdef", ["-<", "-=", "->", "<", "=", ">", "+<", "+=", "+>", "below", "above", "far", "near"]
        rules = [("a", ("none",), "x", True, "a")]
        rules += [(names[k % 6], (places[5 * k % 13],), "x", k % 3 > 0, names[(k * k + 1) % 6]) for k in range(36)]
        one = Loop([*rules, *[(name, ("any",), "x", False, name) for name in names[:3]]])
        other = Loop([(*rule[:4], names[5 - names.index(rule[4])]) for rule in rules]
                     + [(name, ("any",), "x", True, "a") for name in names[:3]])
        self.assertEqual([len(one), len(other)], [40, 40])
        self.check(one, other, "answers", None)
        self.assertFalse(same(one, other, "keeps"))


if __name__ == "__main__":
    unittest.main()
