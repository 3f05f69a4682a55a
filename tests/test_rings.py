"""Points 17 and 18: whether watches ring at loops, and papers for a loop and a watch."""

import copy
import random
import unittest

from nearloops.known import cells, chain, leader, peak
from nearloops.loops import Loop
from nearloops.papers import Table
from nearloops.watches import Watch, apart, calm, covered, is_calm, rings, watched
from tests.helpers import CELLS, CHAIN, LEADER, MOST, PEAK, NearCase
from tests.lone_walks import lead_of_watch, random_watch, watch_behind
from tests.reference import few_numbers, gap_of, random_pairs, told
from tests.walks import (SIGNS, changed, is_closed_table, lengths_from, random_rings, stretched, table_states,
                         without)

STONE = Loop.parse("a none: go keep -> a")
WALKER = Loop.parse("a none near: go keep -> a")
KNOWN = {"leader": leader, "chain": chain, "cells": cells, "peak": peak}
WORDS = ["new", "join", "pass", "rise", "fall", "never"]


def counter_watch(many, word, behind):
    """Return a watch that counts the numbers round and round, and rings at a near one with the word in one state."""
    names = "abcde"
    rules = [(names[behind], ("=",), (word,), "z")]
    rules += [(names[k], ("any",), ("*",), names[(k + 1) % many]) for k in range(many)]
    return Watch(sorted(rules, key=lambda rule: rule[0]), ["z"])


def climber(down):
    """Return a loop that goes up by one cell with each number, turns, and goes down round and round through states."""
    names = "abcd"[:down]
    rules = [("u", ("none", "+="), "up", True, "u"), ("u", ("=",), "turn", True, "a")]
    for k, state in enumerate(names):
        word = "end" if k == down - 1 else "down"
        rules.append((state, ("-=",), word, True, names[(k + 1) % down]))
    return Loop(rules + [(state, ("any",), "off", False, "z") for state in "u" + names])


def drawn_pairs(seed, count):
    """Yield drawn pairs of a loop and a watch."""
    source = random.Random(seed)
    for one, other in [*random_pairs(seed, count), *random_rings(seed, count)]:
        for loop in (one, other):
            yield loop, random_watch(source, sorted({rule[2] for rule in loop.rules} | {"pass"}))


class RingCase(NearCase):
    def check_row(self, loop, watch, found):
        """Check that the watch rings with a row, a tolerance and a number."""
        self.assertEqual([type(found), len(found)], [tuple, 3])
        row, tolerance, number = found
        self.assertEqual([type(row), type(tolerance), type(number)], [list, int, int])
        self.assertTrue(1 <= tolerance <= MOST and all(type(x) is int and abs(x) <= MOST for x in [*row, number]))
        self.assertIn(watch_behind(loop, watch, row, tolerance, number), watch.alarms)
        if len(row) <= 1000:
            self.assertIn(watched(loop, watch, row, tolerance, number), watch.alarms)
        # It rings at its end: a beginning of it would be a shorter row.
        if row:
            self.assertNotIn(watch_behind(loop, watch, row[:-1], tolerance, number), watch.alarms)

    def check_paper(self, loop, watch, table):
        """Check that a table is a paper for a loop and a watch, by the definition and by is_calm."""
        texts = (loop.text(), watch.rules, watch.alarms)
        m = len(table.levels) // 2
        self.assertIsInstance(table, Table)
        self.assertEqual({state[2] for state in table.alone}, {"second"})
        for state in table_states(table, m):
            self.assertIn(state[0], loop.states)
            self.assertIn(state[1], watch.states)
            self.assertNotIn(state[1], watch.alarms)
        begin, lead = (loop.start, watch.start, "second"), lead_of_watch(loop, watch, m + 6)
        self.assertTrue(is_closed_table(table, begin, lead, m + 3), texts)
        self.assertIs(is_calm(loop, watch, table), True, texts)

    def check(self, loop, watch):
        """Check that there is either a row or a paper; return how many numbers the row has, or None."""
        found, table = rings(loop, watch), calm(loop, watch)
        self.assertEqual(found is None, table is not None, (loop.text(), watch.rules, watch.alarms))
        if found is None:
            self.check_paper(loop, watch, table)
            return None
        self.check_row(loop, watch, found)
        return len(found[0])


class RingsTest(RingCase):
    def test_examples(self):
        self.assertIsNone(rings(LEADER, covered("new")))
        self.assertEqual(len(rings(LEADER, apart("new"))[0]), 3)
        self.assertEqual(len(rings(CHAIN, covered("new"))[0]), 3)

    def test_a_first_state_that_is_an_alarm(self):
        watch = Watch([("a", ("near",), ("x",), "b")], ["a"])
        for loop in [LEADER, PEAK]:
            self.assertEqual(self.check(loop, watch), 0)
            row, tolerance, _ = rings(loop, watch)
            self.assertEqual((row, tolerance), ([], 1))
        self.assertEqual(self.check(LEADER, Watch([("a", ("near",), ("x",), "b")], ["b", "a"])), 0)

    def test_no_alarm(self):
        for loop in [LEADER, CHAIN, CELLS, PEAK]:
            self.assertIsNone(self.check(loop, Watch([("a", ("any",), ("*",), "b")], [])))

    def test_one_number(self):
        for group in ["any", "near", "far", "<", "+>", "below", "above", "="]:
            watch = Watch([("a", (group,), ("new",), "b")], ["b"])
            for loop in [LEADER, CHAIN, CELLS, PEAK]:
                self.assertEqual(self.check(loop, watch), 1)
        self.assertIsNone(self.check(LEADER, Watch([("a", ("none",), ("*",), "b")], ["b"])))
        self.assertIsNone(self.check(LEADER, Watch([("a", ("any",), ("join",), "b")], ["b"])))

    def test_equal_numbers(self):
        twice = Watch([("a", ("=",), ("*",), "b"), ("b", ("=",), ("*",), "c")], ["c"])
        self.assertEqual(self.check(LEADER, twice), 2)
        row, _, number = rings(LEADER, twice)
        self.assertEqual(row, [number, number])
        twice_new = Watch([("a", ("=",), ("new",), "b"), ("b", ("=",), ("new",), "c")], ["c"])
        self.assertEqual([self.check(loop, twice_new) for loop in (LEADER, CHAIN, CELLS, PEAK)], [3, 3, 3, None])

    def test_things_apart_and_covered_at_the_known_loops(self):
        lengths = {
            ("leader", "apart"): {"new": 3, "pass": 3},
            ("chain", "apart"): {"new": 3, "join": 3},
            ("cells", "apart"): {"new": 2, "pass": 3},
            ("peak", "apart"): {"rise": 3, "fall": 3, "pass": 3},
            ("leader", "covered"): {"new": None},
            ("chain", "covered"): {"new": 3, "join": 1},
            ("cells", "covered"): {"new": None},
            ("peak", "covered"): {"new": 2},
        }
        for name, make in KNOWN.items():
            told_words = {rule[2] for rule in make().rules} | {"pass"}
            for word in WORDS:
                # No number is apart from itself alone, and the first number is covered by no word but its own.
                expected = lengths[name, "apart"].get(word) if word in told_words else None
                self.assertEqual(self.check(make(), apart(word)), expected, (name, word))
                expected = lengths[name, "covered"].get(word, 1)
                self.assertEqual(self.check(make(), covered(word)), expected, (name, word))

    def test_apart_and_covered_are_what_the_document_says_in_words(self):
        source = random.Random(81)
        for _ in range(200):
            e = source.randint(1, 4)
            row = [source.randint(-3 * e, 3 * e) for _ in range(source.randint(0, 7))]
            for make in KNOWN.values():
                words = told(make(), row, e)[0]
                for word in ["new", "join", "pass"]:
                    things = [x for x, told_word in zip(row, words) if told_word == word]
                    near = any(abs(x - y) <= e for k, x in enumerate(things) for y in things[k + 1:])
                    rung = any(watched(make(), apart(word), row, e, number) == "bad" for number in row)
                    self.assertEqual(rung, near, (row, e, word))
                    bare = any(all(abs(x - y) > e for y in things) for x in row)
                    rung = any(watched(make(), covered(word), row, e, number) == "bad" for number in row)
                    self.assertEqual(rung, bare, (row, e, word))

    def test_drawn_watches_against_plain_walks(self):
        lengths = {}
        for loop, watch in drawn_pairs(82, 60):
            reached = lengths_from({(loop.start, watch.start, "second"): 0}, lead_of_watch(loop, watch, 12))
            length = min([cost for state, cost in reached.items() if state[1] in watch.alarms], default=None)
            self.assertEqual(self.check(loop, watch), length, (loop.text(), watch.rules, watch.alarms))
            lengths[length] = True
        self.assertTrue({None, 1, 2, 3} <= set(lengths))

    def test_no_row_of_few_numbers_rings_where_a_longer_one_is_returned(self):
        # The first of the numbers is that of the watch.
        places = [(row[0], row[1:], tolerance) for row, tolerance in few_numbers(3, 2) if row]
        self.assertTrue(any(len(row) == 2 for _, row, _ in places))
        long = []
        for loop, watch in drawn_pairs(83, 60):
            found = rings(loop, watch)
            if found is None or len(found[0]) > 2:
                long.append((found is None, loop, watch))
        long = [item for item in long if not item[0]] + [item for item in long if item[0]][:3]
        self.assertGreater(len(long), 5)
        for _, loop, watch in long[:8]:
            for number, row, tolerance in places:
                self.assertNotIn(watch_behind(loop, watch, row, tolerance, number), watch.alarms)

    def test_the_number_of_the_watch_far_from_the_first_number(self):
        # The loop goes by one cell with each number, and tells "end" only there; the watch waits for the end.
        for place, back in [("+=", -1), ("-=", 1)]:
            names = "abcdef"
            rules = [("a", ("none",), "go", True, "a")]
            rules += [(names[k], (place,), "go" if k < 4 else "end", True, names[k + 1]) for k in range(5)]
            loop = Loop(rules + [(state, ("any",), "off", False, "a") for state in "abcde"])
            watch = Watch([("w", ("=",), ("end",), "z")], ["z"])
            self.assertEqual(self.check(loop, watch), 6)
            row, tolerance, number = rings(loop, watch)
            self.assertEqual(gap_of(number, row[0], tolerance), (5 * back, "="))
            # All numbers before have to be on that side.
            side = "below" if place == "+=" else "above"
            strict = Watch([("w", ("=",), ("end",), "z"), ("w", (side,), ("go",), "v"), ("v", (side,), ("go",), "x"),
                            ("x", (side,), ("go",), "y"), ("y", (side,), ("*",), "y"), ("y", ("any",), ("go",), "y"),
                            ("y", ("=",), ("end",), "z")], ["z"])
            self.assertEqual(self.check(loop, strict), 6)
            other = "above" if place == "+=" else "below"
            wrong = Watch([("w", (other,), ("*",), "v"), ("v", (other,), ("*",), "y"), ("y", ("=",), ("end",), "z")], ["z"])
            self.assertEqual(self.check(loop, wrong), 8)

    def test_rounds_of_different_lengths(self):
        # The numbers up and down have to fit to the states of the loop and to the count of the watch.
        lengths = {}
        for down in [2, 3, 4]:
            for many in [2, 3, 4, 5]:
                for behind in range(many):
                    loop, watch = climber(down), counter_watch(many, "end", behind)
                    reached = lengths_from({(loop.start, watch.start, "second"): 0}, lead_of_watch(loop, watch, 24))
                    length = min([cost for state, cost in reached.items() if state[1] in watch.alarms], default=None)
                    self.assertEqual(self.check(loop, watch), length, (down, many, behind))
                    lengths[length] = True
        self.assertGreaterEqual(max(length for length in lengths if length is not None), 10)

    def test_rings_after_many_numbers(self):
        # From the number of the watch the loop goes up and comes down again, in rounds of four, and the watch counts
        # the numbers round and round: only higher and higher climbs fit to both.
        for behind, length in [(2, 10), (1, 18), (0, 26)]:
            names = "abc"
            rules = [("s", ("=",), ("up",), "a"), (names[behind], ("=",), ("end",), "z")]
            rules += [(names[k], ("any",), ("*",), names[(k + 1) % 3]) for k in range(3)]
            watch = Watch(rules, ["z"])
            self.assertEqual(self.check(climber(4), watch), length)
            row, tolerance, number = rings(climber(4), watch)
            self.assertEqual((row[0], row[-1]), (number, number))
            self.assertEqual(max(row) // tolerance - number // tolerance, (length - 2) // 2)
            never = Watch([rule for rule in rules if rule[3] != "z"] + [(names[behind], ("=",), ("none",), "z")], ["z"])
            self.assertIsNone(self.check(climber(4), never))

    def test_rounds_that_never_fit(self):
        # The loop goes up and down by rounds of so many cells. It says where in a round it is, so the watch, whose
        # number lies where a round begins, never sees another word there than that of the end of a round.
        for many in [2, 3]:
            ups, downs = "uvw"[:many], "abc"[:many]
            rules = [("u", ("none",), "first", True, "u")]
            rules += [(state, ("+=",), "up", True, ups[(k + 1) % many]) for k, state in enumerate(ups)]
            rules += [("u", ("=",), "turn", True, "a")]
            rules += [(state, ("-=",), f"down{'abc'[k]}", True, downs[(k + 1) % many]) for k, state in enumerate(downs)]
            loop = Loop(rules)
            for k in range(many):
                word = f"down{'abc'[k]}"
                watch = Watch([("s", ("=",), ("first",), "w"), ("w", ("=",), (word,), "z")], ["z"])
                # With the number of the watch anywhere else the first number is not there.
                self.assertEqual(self.check(loop, watch), None if k < many - 1 else 2 * many + 2, (many, word))
                anywhere = Watch([("w", ("=",), (word,), "z")], ["z"])
                self.assertIsNotNone(self.check(loop, anywhere))

    def test_equal_arguments_give_equal_values_and_new_lists(self):
        watch = covered("new")
        first, second = rings(CHAIN, watch), rings(watch=covered("new"), loop=Loop.parse(CHAIN.text()))
        self.assertEqual(first, second)
        first[0].append(7)
        self.assertEqual(rings(CHAIN, watch), second)
        self.assertEqual(watch, covered("new"))


class CalmTest(RingCase):
    def test_papers_hold_what_is_behind_drawn_rows(self):
        source = random.Random(84)
        for loop, watch in [*drawn_pairs(85, 25), (LEADER, covered("new")), (PEAK, apart("new"))]:
            table = calm(loop, watch)
            if table is None:
                continue
            for _ in range(30):
                e, number = source.randint(1, 4), source.randint(-9, 9)
                row = [source.randint(-4 * e, 4 * e)]
                for _ in range(source.randint(0, 12)):
                    row.append(row[-1] + source.choice([0, e, -e, 1, e + 1, 2 * e, source.randint(-9 * e, 9 * e)]))
                for count in range(len(row) + 1):
                    _, _, kept, state, _ = told(loop, row[:count], e)
                    behind = watch_behind(loop, watch, row[:count], e, number)
                    self.assertIn((state, behind, gap_of(kept, number, e)), table)

    def test_a_paper_without_a_reached_joint_state_is_none(self):
        for loop, watch in [*drawn_pairs(86, 20), (LEADER, covered("new")), (CELLS, covered("new"))]:
            table = calm(loop, watch)
            if table is None:
                continue
            reached = lengths_from({(loop.start, watch.start, "second"): 0}, lead_of_watch(loop, watch, 12))
            wide = stretched(table, 2)
            self.assertIs(is_calm(loop, watch, wide), True)
            states = [state for state in table_states(wide, len(table.levels) // 2) if state in reached]
            for state in states[::1 + len(states) // 10]:
                self.assertIs(is_calm(loop, watch, without(wide, state)), False, (loop.text(), watch.rules, state))

    def test_more_levels_and_periods_that_are_multiples(self):
        for loop, watch in [*drawn_pairs(87, 15), (LEADER, covered("new"))]:
            table = calm(loop, watch)
            if table is not None:
                self.assertIs(is_calm(loop, watch, stretched(table, 6, 3 * table.below, 2 * table.above)), True)

    def test_gaps_of_the_list(self):
        for loop, watch in [(LEADER, covered("new")), (PEAK, apart("new")), (CELLS, covered("new"))]:
            table = calm(loop, watch)
            self.assertEqual({state[2] for state in table.alone}, {"second"})
            for state in [*table.alone, (loop.start, watch.states[1], "second")]:
                for word in ["none", "first"]:
                    alone = [*table.alone, (*state[:2], word)]
                    self.assertIs(is_calm(loop, watch, Table(alone, table.levels, table.below, table.above)), False)
            alone = [(*state[:2], "none") for state in table.alone]
            self.assertIs(is_calm(loop, watch, Table(alone, table.levels, table.below, table.above)), False)
            self.assertIs(is_calm(loop, watch, Table([], table.levels, table.below, table.above)), False)

    def test_alarms_and_unknown_states(self):
        loop, watch = LEADER, covered("new")
        table = calm(loop, watch)
        m = len(table.levels) // 2
        for state in [("seek", "bad", "second"), ("seek", "worse", "second"), ("seeks", "good", "second")]:
            alone = [*table.alone, state]
            self.assertIs(is_calm(loop, watch, Table(alone, table.levels, 1, 1)), False)
        for side in [("seek", "bad", "="), ("seek", "x", "<"), ("x", "good", ">")]:
            for at in range(2 * m + 1):
                levels = [list(level) for level in table.levels]
                levels[at].append(side)
                self.assertIs(is_calm(loop, watch, Table(table.alone, levels, 1, 1)), False)
        # A joint state that is not reached may be there, if all to which it leads is there, too.
        still = Loop([("a", ("none",), "x", True, "a"), ("b", ("none",), "x", False, "b")])
        watch = Watch([("w", ("=",), ("y",), "z")], ["z"])
        table = calm(still, watch)
        self.assertIs(is_calm(still, watch, Table([*table.alone, ("b", "w", "second")], table.levels, 1, 1)), True)
        self.assertIs(is_calm(still, watch, Table([*table.alone, ("b", "z", "second")], table.levels, 1, 1)), False)

    def test_a_table_of_all_joint_states(self):
        loops = [one for one, _ in random_pairs(88, 12, 2)]
        for loop in loops:
            for alarms in [[], ["w"], ["z"]]:
                watch = Watch([("w", ("near", "above"), ("x",), "z"), ("z", ("any",), ("*",), "w")], alarms)
                pairs = [(s, t) for s in loop.states for t in watch.states]
                table = Table([(*pair, "second") for pair in pairs],
                              [[(*pair, sign) for pair in pairs for sign in SIGNS]] * 3, 1, 1)
                self.assertIs(is_calm(loop, watch, table), alarms == [])

    def test_changed_tables_against_the_definition(self):
        source = random.Random(89)
        counts = {True: 0, False: 0}
        for loop, watch in [*drawn_pairs(90, 60), (LEADER, covered("new"))]:
            table = calm(loop, watch)
            if table is None:
                continue
            quiet = [state for state in watch.states if state not in watch.alarms]
            sides = [(s, t, sign) for s in loop.states for t in quiet for sign in SIGNS]
            full = Table([(s, t, "second") for s in loop.states for t in quiet], [sides] * 7, 1, 1)
            other = changed(source, source.choice([table, stretched(table, 1), full]), sides)
            m = len(other.levels) // 2
            most = m + 2 * max(other.below, other.above) + 6
            begin, lead = (loop.start, watch.start, "second"), lead_of_watch(loop, watch, most + 2)
            expected = all(state[2] == "second" for state in other.alone)
            expected = expected and is_closed_table(other, begin, lead, most)
            self.assertIs(is_calm(loop, watch, other), expected, (loop.text(), watch.rules, other.alone, other.levels))
            counts[expected] += 1
        self.assertGreater(min(counts.values()), 5)

    def test_periods_of_papers(self):
        # The loop climbs in rounds of three, and the watch counts round and round by two.
        names = "abc"
        loop = Loop([("a", ("none",), "x", True, "a")]
                    + [(names[k], ("+=",), "x", True, names[(k + 1) % 3]) for k in range(3)]
                    + [(state, ("any",), "off", False, "z") for state in names])
        watch = Watch([("v", ("any",), ("x",), "w"), ("w", ("any",), ("x",), "v"), ("v", ("none",), ("*",), "z")], ["z"])
        table = calm(loop, watch)
        self.check_paper(loop, watch, table)
        self.assertEqual(self.check(loop, watch), None)
        self.assertEqual({state[:2] for state in table_states(table, 40) if state[2] == (-40, "=")} & {("a", "v"), ("b", "w")},
                         {state[:2] for state in table_states(table, 34) if state[2] == (-34, "=")} & {("a", "v"), ("b", "w")})

    def test_equal_arguments_give_equal_values(self):
        watch = covered("new")
        table = calm(watch=watch, loop=LEADER)
        self.assertEqual(table, calm(Loop.parse(LEADER.text()), covered("new")))
        before = copy.deepcopy(table.levels)
        self.assertIs(is_calm(table=table, watch=watch, loop=LEADER), True)
        self.assertEqual([table.levels, watch], [before, covered("new")])


if __name__ == "__main__":
    unittest.main()
