"""Points 11, 15 and 16: papers for two loops."""

import copy
import random
import unittest

from nearloops.errors import BadKind
from nearloops.joints import joint
from nearloops.loops import Loop
from nearloops.papers import Table, is_paper, paper
from nearloops.partings import parting, same
from tests.helpers import CELLS, CHAIN, LEADER, PEAK, EqualToAll, NearCase, Unequal
from tests.reference import explored, joint_behind, random_pairs
from tests.walks import (SIGNS, changed, is_closed_table, lead_of_loops, random_rings, shown, stretched, table_states,
                         without)

KINDS = ["words", "keeps", "answers", "all"]
WALKER = Loop.parse("a none near: go keep -> a")
STONE = Loop.parse("b none: lie keep -> b")


def full_table(one, other, m=1):
    """Return a table of all joint states."""
    pairs = [(s, t) for s in one.states for t in other.states]
    alone = [(*pair, word) for pair in pairs for word in ("none", "first", "second")]
    return Table(alone, [[(*pair, sign) for pair in pairs for sign in SIGNS]] * (2 * m + 1), 1, 1)


def climber(many, place="+="):
    """Return a loop that goes on by one cell in so many states, and stops when a number is another one."""
    names = "abcdef"
    rules = [("a", ("none",), "x", True, "a")]
    for k in range(many):
        rules.append((names[k], (place,), "x", True, names[(k + 1) % many]))
        rules.append((names[k], ("any",), "x", False, names[many]))
    return Loop(rules + [(names[many], ("any",), "x", False, names[many])])


def counter(many):
    """Return a loop that keeps the first number alone and counts the numbers."""
    names = "abcdef"
    return Loop([("a", ("none",), "x", True, "a")]
                + [(names[k], ("any",), "x", False, names[(k + 1) % many]) for k in range(many)])


class PaperCase(NearCase):
    def check(self, one, other, table, by="all"):
        """Check that a table is a paper, by the definition and by is_paper."""
        texts = (one.text(), other.text(), by)
        m = len(table.levels) // 2
        self.assertIsInstance(table, Table)
        self.assertTrue({state[0] for state in table_states(table, m)} <= set(one.states), texts)
        self.assertTrue({state[1] for state in table_states(table, m)} <= set(other.states), texts)
        begin, lead = (one.start, other.start, "none"), lead_of_loops(one, other, m + 6)
        self.assertTrue(is_closed_table(table, begin, lead, m + 3), texts)
        for state in table_states(table, m + 3):
            self.assertNotIn(by, shown(one, other, state, 1), texts)
        self.assertIs(is_paper(one, other, table, by), True, texts)

    def check_all(self, one, other):
        """Check that there is either a paper or a row for two loops, for each of the four kinds."""
        kinds = []
        for by in KINDS:
            found, row = paper(one, other, by), parting(one, other, by)
            self.assertEqual(found is None, row is not None, (one.text(), other.text(), by))
            self.assertIs(same(one, other, by), found is not None)
            if found is not None:
                self.check(one, other, found, by)
                kinds.append(by)
        return kinds


class PaperTest(PaperCase):
    def test_examples(self):
        self.assertIs(is_paper(LEADER, LEADER, paper(LEADER, LEADER)), True)
        self.assertIsNone(paper(LEADER, CELLS))
        table = Table([("a", "b", "none")], [[], [("a", "b", "=")], []], 1, 1)
        self.assertIs(is_paper(LEADER, LEADER, table), False)

    def test_known_loops(self):
        loops = [LEADER, CHAIN, CELLS, PEAK]
        for one in loops:
            for other in loops:
                kinds = self.check_all(one, other)
                if one is other:
                    self.assertEqual(kinds, KINDS)
                else:
                    self.assertEqual(kinds, [] if PEAK in (one, other) else ["answers"])

    def test_all_is_the_default(self):
        one = Loop([("b", ("none",), "lie", True, "b")], {"b": "p"})
        self.assertIsNone(paper(STONE, one))
        self.assertEqual(paper(STONE, one, "words"), paper(by="words", other=one, one=STONE))
        self.assertEqual(paper(STONE, STONE), paper(STONE, STONE, "all"))
        table = paper(STONE, one, "keeps")
        self.assertEqual([is_paper(STONE, one, table, by) for by in KINDS], [True, True, False, False])
        self.assertIs(is_paper(STONE, one, table), False)
        self.assertIs(is_paper(by="words", table=table, other=one, one=STONE), True)

    def test_what_is_no_kind(self):
        table = paper(LEADER, LEADER)
        for thing in ["", "word", "ALL", "Words", "any", "none", None, True, False, 0, 1, b"all", ["all"], ("all",), {},
                      {"all": 1}, object()]:
            self.assertFails(BadKind, thing, paper, LEADER, CHAIN, thing)
            self.assertFails(BadKind, thing, paper, LEADER, LEADER, by=thing)
            self.assertFails(BadKind, thing, is_paper, LEADER, LEADER, table, thing)
            self.assertFails(BadKind, thing, is_paper, PEAK, LEADER, table, by=thing)
        for odd in [Unequal(), EqualToAll()]:
            for call, args in [(paper, (LEADER, LEADER)), (is_paper, (LEADER, LEADER, table))]:
                with self.assertRaises(BadKind) as caught:
                    call(*args, odd)
                self.assertIs(caught.exception.by, odd)

    def test_loops_that_differ_in_one_thing(self):
        rules = [("a", ("none",), "x", True, "b"), ("b", ("over",), "x", False, "c"), ("c", ("=",), "x", True, "d")]
        plain = Loop(rules, {"d": "end"})
        for other, kinds in [(Loop(rules[:2] + [("c", ("=",), "y", True, "d")], {"d": "end"}), ["keeps", "answers"]),
                             (Loop(rules[:2] + [("c", ("=",), "x", False, "d")], {"d": "end"}), ["words", "answers"]),
                             (Loop(rules, {"d": "stop"}), ["words", "keeps"])]:
            # By words and by all, "pass" is told for other numbers by both.
            self.assertEqual(self.check_all(plain, other), kinds)
            self.assertEqual(self.check_all(other, plain), kinds)

    def test_loops_that_differ_after_many_numbers(self):
        names = "abcdef"

        def up(groups, answer):
            rules = [("a", ("none",), "go", True, "a")]
            for k in range(5):
                rules.append((names[k], (groups[k % len(groups)],), "go", True, names[k + 1]))
                rules.append((names[k], ("any",), "go", False, "a"))
            return Loop([*rules, ("f", ("any",), "go", False, "f")], {"f": answer})
        still = Loop([("a", ("none", "any"), "go", False, "a")])
        stone = Loop([("a", ("none",), "go", True, "a"), ("a", ("any",), "go", False, "a")])
        for groups in [["+="], ["-<", "below"], ["above"], ["+=", "-="]]:
            self.assertEqual(self.check_all(stone, up(groups, "up")), ["words"])
            self.assertEqual(self.check_all(stone, up(groups, "")), ["words", "answers"])
            self.assertEqual(self.check_all(up(groups, "up"), up(groups, "")), ["words", "keeps"])
            self.assertEqual(self.check_all(still, up(groups, "")), ["words", "answers"])

    def test_drawn_pairs(self):
        counts = {}
        for one, other in random_pairs(51, 90, 3):
            for by in self.check_all(one, other):
                counts[by] = counts.get(by, 0) + 1
        self.assertEqual(sorted(counts), sorted(KINDS))

    def test_drawn_pairs_that_climb(self):
        for one, other in random_rings(52, 60, 5):
            self.check_all(one, other)

    def test_papers_hold_what_is_behind_drawn_rows(self):
        source = random.Random(53)
        pairs = [*random_pairs(54, 30), *random_rings(55, 30), (CHAIN, LEADER), (PEAK, CELLS), (STONE, WALKER)]
        for one, other in pairs:
            for by in KINDS:
                table = paper(one, other, by)
                if table is None:
                    continue
                for _ in range(40):
                    e = source.randint(1, 5)
                    row = [source.randint(-2 * e, 2 * e)]
                    for _ in range(source.randint(0, 14)):
                        row.append(row[-1] + source.choice([0, e, -e, 1, -1, e + 1, 2 * e, source.randint(-9 * e, 9 * e)]))
                    for count in range(len(row) + 1):
                        self.assertIn(joint(one, other, row[:count], e), table)

    def check_reached(self, one, other, bound, most):
        """Check that the paper holds what a plain walk with a d up to the bound reaches, and nothing else."""
        # Nothing in the document asks for this, but the table of what is reached is the least one.
        lengths, _ = explored(one, other, bound)
        table = paper(one, other, "answers")
        reached = {state for state in lengths if isinstance(state[2], str) or abs(state[2][0]) <= most}
        self.assertEqual(set(table_states(table, most)), reached, (one.text(), other.text()))

    def test_papers_hold_what_is_reached_alone(self):
        for one, other in [*random_pairs(56, 25), *random_rings(57, 25)]:
            if same(one, other, "answers"):
                self.check_reached(one, other, 20, 6)

    def test_papers_with_many_levels_hold_what_is_reached_alone(self):
        count = 0
        for one, other in random_rings(58, 4000, 6):
            one, other = Loop(one.rules), Loop(other.rules)
            table = paper(one, other, "answers")
            if len(table.levels) > 11 or table.below + table.above > 2:
                self.check_reached(one, other, 26, 11)
                count += 1
                if count == 40:
                    break
        self.assertEqual(count, 40)

    def test_what_is_reached_through_states_that_come_only_far_up(self):
        # Each state of the climb comes again with every third, fourth or fifth d only.
        for many, count in [(3, 4), (4, 5), (5, 6), (5, 4)]:
            one, other = counter(count), climber(many)
            self.check_reached(one, other, 70, 40)
            self.check_reached(other, one, 70, 40)
        # The second loop goes up in one way and comes down in another.
        for up, down in [(2, 3), (3, 2), (1, 3), (3, 3)]:
            ups, downs = "uvw"[:up], "abc"[:down]
            rules = [("u", ("none",), "x", True, "u")]
            rules += [(state, ("+=",), "x", True, ups[(k + 1) % up]) for k, state in enumerate(ups)]
            rules += [("u", ("=",), "x", True, "a")]
            rules += [(state, ("-=",), "x", True, downs[(k + 1) % down]) for k, state in enumerate(downs)]
            loop = Loop(rules)
            for many in range(1, 7):
                self.check_reached(counter(many), loop, 44, 5)
                self.check_reached(loop, counter(many), 44, 5)

    def test_what_is_reached_from_far_up_by_one_number(self):
        # The second loop goes on by one cell with each number. The first one counts the numbers, and it keeps the sixth
        # one behind the first: a number that is near to the other kept one, beyond it, or between the two. The second
        # loop notes that number, and is dead when another one has come. So from a d of 5 alone one comes to both.
        names = "abcdef"
        rules = [("a", ("none",), "x", True, "a")] + [(names[k], ("any",), "x", False, names[k + 1]) for k in range(5)]
        for place, back in [("+=", "above"), ("-=", "below")]:
            one = Loop([*rules, ("f", (back,), "x", True, "a"), ("f", ("any",), "x", False, "f")])
            for noted in ["<", "below", "above"]:
                other = Loop([("u", ("none", place), "x", True, "u"), ("u", (noted,), "x", False, "v"),
                              ("u", ("any",), "x", False, "w"), ("v", ("any",), "x", False, "w")])
                lengths, _ = explored(one, other, 20)
                found = [lengths[state] for state in lengths if state[:2] == ("a", "v")]
                self.assertEqual(min(found), 7)
                self.check_reached(one, other, 20, 8)
                self.check_reached(other, one, 20, 8)
                self.check_all(one, other)

    def test_rounds_of_different_lengths(self):
        for many, count, period in [(2, 3, 6), (4, 6, 12), (5, 6, 30), (5, 4, 20), (3, 3, 3)]:
            for one, other, below, above in [(counter(count), climber(many), 1, period),
                                             (climber(many), counter(count), period, 1),
                                             (counter(count), climber(many, "-="), period, 1)]:
                table = paper(one, other, "answers")
                self.check(one, other, table, "answers")
                self.assertEqual((table.below % below, table.above % above), (0, 0))
                live = [[state for state in table.level(d) if "f" not in state[:2]] for d in range(-70, 71)]
                self.assertIn(live[70 + 61] if above > 1 else live[70 - 61], live)
                for number in (59, 60, 61):
                    row = [2 * k * (1 if (above > 1) == (one.text() == counter(count).text()) else -1)
                           for k in range(number)]
                    self.assertIn(joint_behind(one, other, row, 2), table)

    def test_a_difference_that_only_one_remainder_shows(self):
        # Both go up and down again; the numbers of states have to fit, and only then the answers differ.
        def updown(down, answer):
            rules = [("u", ("none",), "x", True, "u"), ("u", ("=",), "x", True, "a"), ("u", ("+=",), "x", True, "u")]
            downs = "abcd"[:down]
            rules += [(state, ("-=",), "x", True, downs[(k + 1) % down]) for k, state in enumerate(downs)]
            rules += [(downs[-1], ("=",), "x", True, "y")]
            rules += [(state, ("any",), "x", False, "z") for state in "uz" + downs]
            return Loop([*rules, ("y", ("any",), "x", False, "z")], {"y": answer})
        stone = Loop([("k", ("none",), "x", True, "k"), ("k", ("any",), "x", False, "k")])
        for down in [1, 2, 3]:
            self.assertEqual(self.check_all(stone, updown(down, "p")), ["words"])
            self.assertEqual(self.check_all(stone, updown(down, "")), ["words", "answers"])
            self.assertEqual(self.check_all(updown(down, ""), updown(down, "p")), ["words", "keeps"])

    def test_large_loops(self):
        names, places = "abcdef", ["-<", "-=", "->", "<", "=", ">", "+<", "+=", "+>", "below", "above", "far", "near"]
        rules = [("a", ("none",), "x", True, "a")]
        rules += [(names[k % 6], (places[5 * k % 13],), "x", k % 3 > 0, names[(k * k + 1) % 6]) for k in range(36)]
        one = Loop([*rules, *[(name, ("any",), "x", False, name) for name in names[:3]]])
        other = Loop([(*rule[:4], names[5 - names.index(rule[4])]) for rule in rules]
                     + [(name, ("any",), "x", True, "a") for name in names[:3]])
        self.assertEqual([len(one), len(other), len(one.states), len(other.states)], [40, 40, 6, 6])
        table = paper(one, other, "answers")
        self.assertIs(is_paper(one, other, table, "answers"), True)
        self.assertIsNone(paper(one, other, "keeps"))
        self.assertIs(is_paper(one, other, full_table(one, other), "answers"), True)
        self.assertIs(is_paper(one, one, paper(one, one)), True)

    def test_equal_arguments_give_equal_values(self):
        texts = CHAIN.text(), STONE.text()
        first = paper(CHAIN, STONE, "answers")
        self.assertEqual(first, paper(Loop.parse(texts[0]), Loop.parse(texts[1]), "answers"))
        before = copy.deepcopy((first.alone, first.levels, first.below, first.above))
        is_paper(CHAIN, STONE, first, "answers")
        self.assertEqual((first.alone, first.levels, first.below, first.above), before)
        self.assertEqual((CHAIN.text(), STONE.text()), texts)


class IsPaperTest(PaperCase):
    def papers(self):
        """Return drawn pairs of loops with a paper for them and its kind."""
        pairs = [(LEADER, LEADER), (PEAK, PEAK), (STONE, WALKER), (counter(3), climber(2)),
                 *random_pairs(61, 40, 2), *random_rings(62, 20, 3)]
        found = []
        for number, (one, other) in enumerate(pairs):
            for by in KINDS[number % 2::2]:
                table = paper(one, other, by)
                if table is not None:
                    found.append((one, other, table, by))
        return found

    def test_a_paper_without_a_reached_joint_state_is_none(self):
        for one, other, table, by in self.papers()[:40]:
            m = len(table.levels) // 2
            lengths, _ = explored(one, other, 14)
            wide = stretched(table, 2)
            reached = [state for state in table_states(wide, m) if state in lengths]
            self.assertIs(is_paper(one, other, wide, by), True)
            for state in reached[::1 + len(reached) // 12]:
                self.assertIs(is_paper(one, other, without(wide, state), by), False, (one.text(), other.text(), state))

    def test_more_levels_and_periods_that_are_multiples(self):
        for one, other, table, by in self.papers()[:40]:
            self.assertIs(is_paper(one, other, stretched(table, 1), by), True)
            self.assertIs(is_paper(one, other, stretched(table, 7), by), True)
            wide = stretched(table, 8, 2 * table.below, 3 * table.above)
            self.assertIs(is_paper(one, other, wide, by), True)
            for d in range(-40, 41):
                self.assertEqual(wide.level(d), table.level(d))

    def test_a_table_of_all_joint_states(self):
        yes = 0
        for one, other in [*random_pairs(63, 60, 2), (LEADER, LEADER), (STONE, WALKER)]:
            states = table_states(full_table(one, other), 6)
            kinds = set().union(*[shown(one, other, state, 1) for state in states])
            for by in KINDS:
                for m in [1, 5]:
                    self.assertIs(is_paper(one, other, full_table(one, other, m), by), by not in kinds)
                yes += by not in kinds
        self.assertGreater(yes, 20)

    def test_changed_tables_against_the_definition(self):
        source = random.Random(64)
        counts = {True: 0, False: 0}
        for one, other, table, by in self.papers() * 3:
            states = [(s, t, sign) for s in one.states for t in other.states for sign in SIGNS]
            base = source.choice([table, stretched(table, 2), full_table(one, other, source.randint(1, 4))])
            other_table = changed(source, base, states)
            m = len(other_table.levels) // 2
            most = m + 2 * max(other_table.below, other_table.above) + 6
            begin, lead = (one.start, other.start, "none"), lead_of_loops(one, other, most + 2)
            expected = is_closed_table(other_table, begin, lead, most)
            expected = expected and not any(by in shown(one, other, state, 1)
                                            for state in table_states(other_table, most))
            texts = (one.text(), other.text(), by, other_table.alone, other_table.levels)
            self.assertIs(is_paper(one, other, other_table, by), expected, texts)
            counts[expected] += 1
        self.assertGreater(min(counts.values()), 20)

    def test_tables_must_be_closed_where_no_row_comes_to(self):
        # A joint state that is never reached leads to another one, which the table lacks.
        one = Loop([("a", ("none",), "x", True, "a"), ("b", ("=",), "pass", False, "c")])
        table = paper(one, one)
        alone = [*table.alone, ("b", "b", "first")]
        extra = Table(alone, table.levels, 1, 1)
        self.assertIs(is_paper(one, one, extra), False)
        wider = Table([*alone, ("c", "b", "first")], table.levels, 1, 1)
        self.assertIs(is_paper(one, one, wider), True)
        gaps = [[(s, t, sign) for s in "bc" for t in "bc" for sign in SIGNS]] * 9
        levels = [[*level, *more] for level, more in zip(table.levels, gaps)]
        closed = Table([*table.alone, *[(s, t, "first") for s in "bc" for t in "bc"]], levels, 1, 1)
        self.assertIs(is_paper(one, one, closed, "words"), True)
        # With both states a and one kept number, the second loop leaps to any d.
        leaping = Table([*table.alone, ("c", "a", "first")], table.levels, 1, 1)
        self.assertIs(is_paper(one, one, leaping, "answers"), False)
        far = [[*level, *[("c", "a", sign) for sign in SIGNS]] for level in table.levels]
        self.assertIs(is_paper(one, one, Table([*table.alone, ("c", "a", "first")], far, 1, 1), "answers"), True)
        far[0].remove(("c", "a", "<"))
        self.assertIs(is_paper(one, one, Table([*table.alone, ("c", "a", "first")], far, 1, 1), "answers"), False)
        far[0].append(("c", "a", "<"))
        far[4].remove(("c", "a", "="))
        self.assertIs(is_paper(one, one, Table([*table.alone, ("c", "a", "first")], far, 1, 1), "answers"), False)

    def test_leaps_between_the_kept_numbers_need_all_levels_from_two_on(self):
        # The loop b leaps down to between the kept numbers, if it is the upper one.
        one = Loop([("a", ("none",), "x", True, "b"), ("b", ("above",), "x", False, "c")])
        other = Loop([("a", ("none",), "x", True, "b"), ("b", ("below",), "x", True, "c")])
        table = paper(one, other, "answers")
        start = ("b", "b", "=")
        states = [[(s, t, sign) for s in "bc" for t in "bc" for sign in SIGNS]] * 13
        base = Table(table.alone, states, 1, 1)
        self.assertIs(is_paper(one, other, base, "answers"), True)
        for d in range(-6, 7):
            levels = [list(level) for level in states]
            levels[d + 6].remove(("c", "c", "<"))
            self.assertIs(is_paper(one, other, Table(table.alone, levels, 1, 1), "answers"), False, d)
        # Only at a d of 6 and more is there a joint state that leaps, but it leads to each d from 2 on.
        only = [[] for _ in range(13)]
        only[6] = [("b", "b", "=")]
        alone = [("a", "a", "none")]
        for d in range(6, 7):
            only[d + 6].append(start)
        self.assertIs(is_paper(one, other, Table(alone, only, 1, 1), "answers"), False)

    def test_leaps_need_all_levels_behind_them_and_no_others(self):
        # The second loop leaps up, or down, in its state p; whether the levels of what it leads to have gaps is drawn.
        source = random.Random(65)
        counts = {True: 0, False: 0}
        for number in range(400):
            place = source.choice(["above", "below"])
            one = Loop([("a", ("any",), "x", False, "a")])
            other = Loop([("b", ("any",), "x", False, "b"), ("p", (place,), "pass", True, "q")])
            if number % 2:
                one, other = other, one
            m, begin = source.randint(1, 9), (one.start, other.start, "none")

            def side(state, sign):
                return ("a", state, sign) if one.states == ("a",) else (state, "a", sign)
            gaps = source.sample(range(-m, m + 1), source.randint(0, min(3, m)))
            # Near to 0 all may be there, or far from it, or everywhere.
            low, high = sorted([source.choice([-m, 0, 2, m]), source.choice([-m, 0, 2, m])])
            full = [d for d in range(-m, m + 1) if low <= d <= high and d not in gaps]
            leaping = source.sample(range(-m, m + 1), source.randint(1, 2))
            levels = [[side("q", sign) for sign in SIGNS if d in full] for d in range(-m, m + 1)]
            for d in leaping:
                levels[d + m].append(side("p", source.choice(SIGNS)))
            below, above = source.randint(1, m), source.randint(1, m)
            table = Table([begin], levels, below, above)
            most = m + 2 * max(below, above) + 6
            expected = is_closed_table(table, begin, lead_of_loops(one, other, most + 3), most)
            self.assertIs(is_paper(one, other, table, "answers"), expected, (place, number % 2, levels, below, above))
            counts[expected] += 1
        self.assertGreater(counts[True], 15)
        self.assertGreater(counts[False], 100)

    def test_a_leap_to_just_the_levels_between_the_kept_numbers(self):
        # Only for a number between the kept ones both loops go to their states q; the other states do nothing more.
        one = Loop([("a", ("any",), "x", False, "a"), ("p", ("above",), "pass", False, "q"),
                    ("p", ("near", "-<", "+>"), "pass", False, "r")])
        other = Loop([("b", ("any",), "x", False, "b"), ("p", ("below",), "pass", True, "q"),
                      ("p", ("any",), "pass", False, "s")])
        for d in [4, 5, 6, 9]:
            for gap in [None, *range(2, 10)]:
                levels = [[] for _ in range(25)]
                for at in range(-12, 13):
                    pairs = [("p", "q"), ("q", "q"), ("r", "q")] if at <= -2 else [("r", "q")] if at <= 1 else []
                    pairs += [("q", "q")] if 2 <= at <= d - 2 and at != gap else []
                    levels[at + 12] += [(*pair, sign) for pair in pairs for sign in SIGNS]
                levels[d + 12] += [("p", "p", "="), ("q", "s", "=")]
                table = Table([("a", "b", "none")], levels, 1, 1)
                expected = is_closed_table(table, ("a", "b", "none"), lead_of_loops(one, other, 18), 15)
                self.assertIs(is_paper(one, other, table, "answers"), expected, (d, gap))
                self.assertIs(expected, gap is None or gap > d - 2, (d, gap))

    def test_a_leap_to_just_the_levels_above_both_kept_numbers(self):
        one = Loop([("a", ("any",), "x", False, "a")])
        other = Loop([("b", ("any",), "x", False, "b"), ("p", ("above",), "pass", True, "q")])
        for d in range(0, 6):
            for gaps in [[], *[[gap] for gap in range(0, 12)], [2, 8], [0, 1, 2, 3, 4, 5, 6, 7], [3, 12], [12]]:
                for period in (1, 5):
                    levels = [[("a", "q", sign) for sign in SIGNS if at >= 0 and at not in gaps] for at in range(-12, 13)]
                    levels[d + 12].append(("a", "p", ">"))
                    table = Table([("a", "b", "none")], levels, 1, period)
                    # A level far up is missing again and again if it is one of the last ones.
                    missing = [gap for gap in gaps if gap >= d + 2 or gap > 12 - period]
                    self.assertIs(is_paper(one, other, table, "answers"), missing == [], (d, gaps, period))
                    turned = [[("q", "a", sign) for _, state, sign in level if state == "q"] for level in levels[::-1]]
                    turned[12 - d].append(("p", "a", "<"))
                    table = Table([("b", "a", "none")], turned, period, 1)
                    self.assertIs(is_paper(other, one, table, "answers"), missing == [], (d, gaps, period))

    def test_periods_are_looked_at(self):
        one, other = counter(3), climber(2)
        table = paper(one, other, "answers")
        self.assertEqual(table.above % 6, 0)
        wide = stretched(table, 8)
        self.assertIs(is_paper(one, other, wide, "answers"), True)
        for above in range(1, 13):
            given = Table(wide.alone, wide.levels, wide.below, above)
            self.assertIs(is_paper(one, other, given, "answers"), above % 6 == 0, above)

    def test_differences_far_above_the_levels_count(self):
        # With a d of 3 the words are the same; from 4 on there are numbers between the kept ones.
        one = Loop([("a", ("any",), "x", False, "b"), ("b", ("above",), "y", False, "b"), ("b", ("any",), "x", False, "b")])
        other = Loop([("a", ("any",), "x", False, "b"), ("b", ("below",), "x", False, "b"), ("b", ("any",), "y", False, "b")])
        for d in range(-6, 7):
            self.assertEqual("words" in shown(one, other, ("b", "b", (d, "=")), 1), d != 3, d)

        def table(m, above, held):
            levels = [[("b", "b", "=")] if d in held else [] for d in range(-m, m + 1)]
            return Table([("a", "a", "none")], levels, 1, above)
        self.assertIs(is_paper(one, other, table(4, 1, [3]), "words"), True)
        self.assertIs(is_paper(one, other, table(4, 1, [3]), "answers"), True)
        for m, above in [(3, 1), (3, 2), (3, 3), (4, 2), (5, 3), (9, 7)]:
            self.assertIs(is_paper(one, other, table(m, above, [3]), "words"), False)
            self.assertIs(is_paper(one, other, table(m, above, [3]), "all"), False)
            self.assertIs(is_paper(one, other, table(m, above, [3]), "answers"), True)
        for d in range(-6, 7):
            self.assertIs(is_paper(one, other, table(7, 1, [d]), "words"), d == 3)

    def test_states_of_the_two_loops_alone(self):
        table = paper(PEAK, PEAK)
        for wrong in ["first", "none", "second"]:
            for state in [("seek", "seeks", wrong), ("fall", "seek", wrong), ("x", "x", wrong)]:
                self.assertIs(is_paper(PEAK, PEAK, Table([*table.alone, state], table.levels, 1, 1), "keeps"), False)
        levels = [list(level) for level in table.levels]
        for at in (0, 4, 8):
            levels[at].append(("seek", "x", "="))
            self.assertIs(is_paper(PEAK, PEAK, Table(table.alone, levels, 1, 1)), False)
            levels[at].pop()
        self.assertIs(is_paper(PEAK, PEAK, Table(table.alone, levels, 1, 1)), True)
        # The second names are states of the second loop.
        one = Loop([("a", ("none",), "x", True, "b")])
        other = Loop([("c", ("none",), "x", True, "d")])
        mixed = paper(one, other)
        self.assertIs(is_paper(one, other, mixed), True)
        self.assertIs(is_paper(other, one, mixed), False)

    def test_the_first_joint_state_is_needed(self):
        table = paper(LEADER, LEADER)
        self.assertIs(is_paper(LEADER, LEADER, Table([], table.levels, 1, 1)), False)
        self.assertIs(is_paper(LEADER, LEADER, Table([], [[], [], []], 1, 1)), False)
        for word in ["first", "second"]:
            self.assertIs(is_paper(LEADER, LEADER, Table([("seek", "seek", word)], table.levels, 1, 1)), False)
        small = Table([("seek", "seek", "none")], [[], [("seek", "seek", "=")], []], 1, 1)
        self.assertIs(is_paper(LEADER, LEADER, small), True)
        never = Loop([("a", ("any",), "x", True, "a")])
        self.assertIs(is_paper(never, never, Table([("a", "a", "none")], [[], [], []], 1, 1)), True)


if __name__ == "__main__":
    unittest.main()
