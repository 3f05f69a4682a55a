"""Point 8: the text of a loop."""

import unittest

from nearloops.errors import BadLoop
from nearloops.loops import Loop
from nearloops.places import PLACES
from tests.helpers import NearCase

RULE = "a near: old pass -> b"


class TextTest(NearCase):
    def test_the_line_of_a_rule(self):
        loop = Loop([("start", ("near", "+>"), "old", False, "start")])
        self.assertEqual(loop.text(), "start near +>: old pass -> start")
        loop = Loop([("start", ["none"], "new", True, "end")])
        self.assertEqual(loop.text(), "start none: new keep -> end")

    def test_answers_stand_behind_the_rules_in_the_order_of_the_states(self):
        rules = [("m", ("any",), "w", True, "z"), ("b", ("=", "="), "v", False, "m")]
        loop = Loop(rules, {"b": "one", "z": "", "m": "two"})
        self.assertEqual(loop.text(), "m any: w keep -> z\nb = =: v pass -> m\nanswer m two\nanswer b one")

    def test_text_and_parse_are_inverse(self):
        groups = ["any", "near", "far", "less", "more", "under", "over", "cell", "none", *PLACES]
        loops = [
            Loop([("a", groups, "w", True, "b"), ("b", groups[::-1], "pass", False, "keep")], {"keep": "end"}),
            Loop([("answer", ("near",), "answer", True, "answer")], {"answer": "answer"}),
            Loop([("a", (name,), "abcdefgh", k % 2 == 0, "abcdefgh") for k, name in enumerate(groups * 2)]),
        ]
        for loop in loops:
            text = loop.text()
            self.assertEqual(Loop.parse(text), loop)
            self.assertEqual(Loop.parse(text).text(), text)

    def test_parse_makes_a_loop(self):
        loop = Loop.parse(text="a none far: new keep -> b\nb near =: old pass -> a\nanswer a x\nanswer b y")
        rules = [("a", ("none", "far"), "new", True, "b"), ("b", ("near", "="), "old", False, "a")]
        self.assertIsInstance(loop, Loop)
        self.assertEqual(loop, Loop(rules, {"a": "x", "b": "y"}))
        self.assertIs(loop.rules[0][3], True)
        self.assertIs(loop.rules[1][3], False)

    def test_a_state_called_answer(self):
        loop = Loop.parse("answer near: old pass -> a\nanswer far: no keep -> b")
        self.assertEqual(loop.states, ("answer", "a", "b"))
        # A group is not called answer, so this is no rule; and no answer has a colon.
        self.assertFails(BadLoop, 2, Loop.parse, "answer near: old pass -> a\nanswer answer: no keep -> b")
        loop = Loop.parse("a near: old pass -> answer\nanswer near: old keep -> a\nanswer a x\nanswer answer y")
        self.assertEqual(loop.answers, {"a": "x", "answer": "y"})
        self.assertFails(BadLoop, 2, Loop.parse, "a near: old pass -> a\nanswer answer y")

    def test_forty_rules_and_answers(self):
        text = "\n".join([RULE] * 40 + ["answer a x", "answer b y"])
        self.assertEqual(len(Loop.parse(text)), 40)
        self.assertEqual(Loop.parse(text).text(), text)


class WrongTextTest(NearCase):
    def test_the_empty_text(self):
        self.assertFails(BadLoop, 1, Loop.parse, "")
        self.assertFails(BadLoop, 1, Loop.parse, "\n")
        self.assertFails(BadLoop, 1, Loop.parse, "\n" + RULE)

    def test_lines_that_are_not_built_as_point_8_says(self):
        wrong = [
            "", " ", "a", "#", ":", " : ", "a near", "a near:", "a near: old", "a near: old pass", "a near: old pass ->",
            "a near: old pass -> ", "a near old pass -> b", "a near:old pass -> b", "a near : old pass -> b",
            "a near: old pass->b", "a near: old pass - > b", "a near: old pass => b", "a near: old pass b",
            "a near:  old pass -> b", "a near: old  pass -> b", "a near: old pass  -> b", "a near: old pass ->  b",
            "a  near: old pass -> b", " a near: old pass -> b", "a near: old pass -> b ", "a near  far: old pass -> b",
            "a near far : old pass -> b", "a\tnear: old pass -> b", "a near:\told pass -> b", "a near: old pass -> b\r",
            "a: old pass -> b", "a : old pass -> b", "near: old pass -> b", " near: old pass -> b",
            "a near: old Keep -> b", "a near: old KEEP -> b", "a near: old True -> b", "a near: old 1 -> b",
            "a near: old  -> b", "a near: old pass -> b c", "a near: old new pass -> b", "a near: old pass -> b:",
            "a near:: old pass -> b", "a near: old: pass -> b", "a near, far: old pass -> b", "a a near: old pass -> b",
            "a nearby: old pass -> b", "a NEAR: old pass -> b", "a ~: old pass -> b", "a near: old pass -> B",
            "A near: old pass -> b", "a near: Old pass -> b", "abcdefghi near: old pass -> b",
            "a near: abcdefghi pass -> b", "a near: old pass -> abcdefghi", "a near: \u00e9 pass -> b",
            "a1 near: old pass -> b", "answer a", "answer  a x", "answer: a x", "Answer a x", "answers a x",
            " answer a x", "answer a x ", "answer a x y", "answer a X", "answer a abcdefghi", "answer a ", "answer  x",
            "answer a x:", "answer a: x", "answer a 1", "answer a -> x", "a near: old pass -> b\x0bc",
        ]
        for line in wrong:
            with self.subTest(line):
                self.assertFails(BadLoop, 1, Loop.parse, line)
                self.assertFails(BadLoop, 1, Loop.parse, line + "\n" + RULE)
                self.assertFails(BadLoop, 2, Loop.parse, RULE + "\n" + line)
                self.assertFails(BadLoop, 3, Loop.parse, RULE + "\n" + RULE + "\n" + line + "\n" + RULE)
                self.assertFails(BadLoop, 3, Loop.parse, RULE + "\nanswer a x\n" + line)

    def test_other_line_ends_do_not_separate_lines(self):
        for end in ["\r\n", "\r", "\x0b", "\x0c", "\x1c", "\x85", "\u2028"]:
            self.assertFails(BadLoop, 1, Loop.parse, RULE + end + RULE)

    def test_a_newline_at_the_end(self):
        self.assertFails(BadLoop, 2, Loop.parse, RULE + "\n")
        self.assertFails(BadLoop, 3, Loop.parse, RULE + "\nanswer a x\n")

    def test_an_answer_before_all_rules(self):
        self.assertFails(BadLoop, 1, Loop.parse, "answer a x")
        self.assertFails(BadLoop, 1, Loop.parse, "answer a x\n" + RULE)

    def test_a_rule_behind_an_answer(self):
        self.assertFails(BadLoop, 3, Loop.parse, RULE + "\nanswer a x\n" + RULE)
        self.assertFails(BadLoop, 4, Loop.parse, RULE + "\nanswer a x\nanswer b y\n" + RULE + "\nanswer b z")

    def test_answers_of_unknown_states(self):
        self.assertFails(BadLoop, 2, Loop.parse, RULE + "\nanswer c x")
        self.assertFails(BadLoop, 3, Loop.parse, RULE + "\nanswer a x\nanswer c x\nanswer a x")
        # The rule in which the state occurs stands behind the answer.
        self.assertFails(BadLoop, 2, Loop.parse, RULE + "\nanswer c x\nb near: old pass -> c")

    def test_answers_that_are_there_already(self):
        self.assertFails(BadLoop, 3, Loop.parse, RULE + "\nanswer a x\nanswer a x")
        self.assertFails(BadLoop, 4, Loop.parse, RULE + "\nanswer a x\nanswer b y\nanswer b z")

    def test_answers_in_another_order_than_the_states(self):
        self.assertFails(BadLoop, 3, Loop.parse, RULE + "\nanswer b x\nanswer a x")
        three = "c near: old pass -> b\na near: old pass -> b"
        self.assertEqual(Loop.parse(three + "\nanswer c x\nanswer a y").answers, {"c": "x", "b": "", "a": "y"})
        self.assertFails(BadLoop, 4, Loop.parse, three + "\nanswer a x\nanswer b x")
        self.assertFails(BadLoop, 5, Loop.parse, three + "\nanswer c x\nanswer a x\nanswer b x")

    def test_forty_one_rules(self):
        self.assertFails(BadLoop, 41, Loop.parse, "\n".join([RULE] * 41))
        self.assertFails(BadLoop, 41, Loop.parse, "\n".join([RULE] * 50 + ["", "x"]))
        self.assertFails(BadLoop, 41, Loop.parse, "\n".join([RULE] * 40 + ["x"]))
        self.assertFails(BadLoop, 40, Loop.parse, "\n".join([RULE] * 39 + ["x"] + [RULE] * 9))

    def test_seven_states(self):
        names = "abcdefgh"
        lines = [f"{names[k]} any: go pass -> {names[k + 1]}" for k in range(7)]
        self.assertEqual(len(Loop.parse("\n".join(lines[:5])).states), 6)
        self.assertFails(BadLoop, 6, Loop.parse, "\n".join(lines))
        self.assertFails(BadLoop, 6, Loop.parse, "\n".join(lines[:6] + ["x", ""]))
        self.assertFails(BadLoop, 6, Loop.parse, "\n".join(lines[:6] + ["answer z z"]))
        self.assertFails(BadLoop, 6, Loop.parse, "\n".join(lines[:5] + ["x"] + lines[5:]))

    def test_the_first_of_two_wrong_lines_is_named(self):
        self.assertFails(BadLoop, 2, Loop.parse, RULE + "\nA near: old pass -> b\n\n" + RULE)
        self.assertFails(BadLoop, 2, Loop.parse, RULE + "\n\nA near: old pass -> b")
        self.assertFails(BadLoop, 2, Loop.parse, RULE + "\nanswer c x\n" + RULE)
        self.assertFails(BadLoop, 2, Loop.parse, RULE + "\nA near: old pass -> b\nanswer c x")


if __name__ == "__main__":
    unittest.main()
