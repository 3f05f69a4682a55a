"""Point 15: tables."""

import copy
import unittest

from nearloops.errors import BadTable
from nearloops.papers import Table
from tests.helpers import MOST, EqualToAll, NearCase, Unequal

SIDE = ("a", "b", "=")
GOOD = ([("a", "b", "none"), ("a", "c", "first"), ("d", "b", "second")], [[SIDE], [], [("b", "b", "<")]], 1, 1)


def levels(many):
    """Return so many levels that are all different, the middle one of which is that of the d 0."""
    return [[("a", "b", sign) for k, sign in enumerate("<=>") if number >> k & 1] for number in range(many)]


class BadTableTest(NearCase):
    def fails(self, *args):
        """Check that these arguments make no table."""
        with self.assertRaises(BadTable) as caught:
            Table(*args)
        self.assertEqual(vars(caught.exception), {})

    def test_what_is_no_joint_state_with_a_word_as_its_gap(self):
        alone, given, below, above = GOOD
        wrong = [("a", "b", (0, "=")), ("a", "b", ("none",)), ("a", "b", "="), ("a", "b", ""), ("a", "b", "third"),
                 ("a", "b", None), ("a", "b", 0), ("a", "b", True), ("a", "b"), ("a", "b", "none", "none"), (), [],
                 ("", "b", "none"), ("A", "b", "none"), ("a", "abcdefghi", "none"), ("a", "b c", "none"),
                 (None, "b", "none"), ("a", 7, "none"), (["a"], "b", "none"), ("a", ("b",), "none"), "abc", "", None, 0,
                 True, b"abc", {}, {"a": 1, "b": 2, "none": 3}, {"a", "b", "none"}, object(), Unequal(), EqualToAll(),
                 (Unequal(), "b", "none"), ("a", EqualToAll(), "none"), ("a", "b", EqualToAll()), ("a", "b", Unequal())]
        for thing in wrong:
            self.fails([thing], given, below, above)
            self.fails([*alone, thing], given, below, above)
        for things in [None, 0, True, "", "none", b"", {}, {("a", "b", "none"): 1}, {("a", "b", "none")}, SIDE[:2],
                       iter(alone), object(), EqualToAll(), range(0)]:
            self.fails(things, given, below, above)

    def test_what_is_no_side_state(self):
        alone, _, below, above = GOOD
        wrong = [("a", "b", "none"), ("a", "b", "first"), ("a", "b", (0, "=")), ("a", "b", "<="), ("a", "b", ""),
                 ("a", "b", None), ("a", "b", "+="), ("a", "b", "below"), ("a", "b"), ("a", "b", "=", "="), (),
                 ("", "b", "="), ("a", "B", "="), ("abcdefghi", "b", "="), (0, "b", "="), ("a", None, "="), "ab=", None,
                 0, True, b"ab=", {}, {"a", "b", "="}, object(), Unequal(), EqualToAll(), (EqualToAll(), "b", "="),
                 ("a", Unequal(), "="), ("a", "b", EqualToAll()), ("a", "b", ["="])]
        for thing in wrong:
            for at in range(3):
                given = [[SIDE], [SIDE], [SIDE]]
                given[at].append(thing)
                self.fails(alone, given, below, above)

    def test_what_is_no_list_of_levels(self):
        alone, given, below, above = GOOD
        for wrong in [[], [[]], [[], []], [[]] * 4, [[]] * 10, (), ([],), None, 0, True, "", "abc", b"abc", {},
                      {0: [], 1: [], 2: []}, iter(given), range(3), object(), Unequal(), EqualToAll()]:
            self.fails(alone, wrong, below, above)
        for level in [None, 0, True, "", "ab=", b"", {}, {SIDE: 1}, {SIDE}, iter([SIDE]), SIDE, range(0), EqualToAll()]:
            for at in range(3):
                self.fails(alone, [*[[]] * at, level, *[[]] * (2 - at)], below, above)

    def test_what_is_no_period(self):
        alone, _, _, _ = GOOD
        for m in [1, 2, 5]:
            given = [[]] * (2 * m + 1)
            for wrong in [0, -1, m + 1, 10 ** 30, True, False, None, 1.0, "1", (1,), [1], 1j, Unequal(), EqualToAll()]:
                self.fails(alone, given, wrong, 1)
                self.fails(alone, given, 1, wrong)
            for below in range(1, m + 1):
                for above in range(1, m + 1):
                    table = Table(alone, given, below, above)
                    self.assertEqual((table.below, table.above), (below, above))

    def test_the_good_neighbours(self):
        self.assertIsInstance(Table(*GOOD), Table)
        self.assertIsInstance(Table([], [[], [], []], 1, 1), Table)
        self.assertIsInstance(Table((), ((), (), ()), 1, 1), Table)
        self.assertIsInstance(Table([("abcdefgh", "z", "none")], [[("abcdefgh", "z", ">")]] * 3, 1, 1), Table)
        self.assertIsInstance(Table([["a", "b", "second"]], [[["a", "b", "<"]]] * 5, 2, 2), Table)


class TableTest(unittest.TestCase):
    def test_example(self):
        table = Table([("a", "b", "none")], [[], [("a", "b", "=")], []], 1, 1)
        self.assertIs(("a", "b", (0, "=")) in table, True)
        self.assertIs(("a", "b", (0, "<")) in table, False)
        self.assertEqual(table.level(7), ())

    def test_properties(self):
        table = Table(*GOOD)
        self.assertEqual(table.alone, (("a", "b", "none"), ("a", "c", "first"), ("d", "b", "second")))
        self.assertEqual(table.levels, ((SIDE,), (), (("b", "b", "<"),)))
        self.assertEqual((table.below, table.above), (1, 1))
        self.assertEqual([type(table.alone), type(table.levels), type(table.levels[0])], [tuple] * 3)

    def test_ascending_and_each_once(self):
        states = [("b", "a", "none"), ("a", "b", "second"), ["a", "b", "none"], ("b", "a", "none"), ("a", "b", "first")]
        level = [("b", "a", "<"), ("a", "b", ">"), ["a", "b", "="], ("a", "b", "<"), ("b", "a", "<"), ("a", "b", "=")]
        table = Table(states, [level, [], level[::-1]], 1, 1)
        self.assertEqual(table.alone, (("a", "b", "first"), ("a", "b", "none"), ("a", "b", "second"), ("b", "a", "none")))
        sides = (("a", "b", "<"), ("a", "b", "="), ("a", "b", ">"), ("b", "a", "<"))
        self.assertEqual(table.levels, (sides, (), sides))
        for state in [*table.alone, *table.levels[0]]:
            self.assertIs(type(state), tuple)

    def test_lists_and_tuples_make_equal_tables(self):
        alone, given, below, above = GOOD
        as_tuples = Table(tuple(alone), tuple(tuple(level) for level in given), below, above)
        as_lists = Table([list(state) for state in alone], [[list(side) for side in level] for level in given], 1, 1)
        self.assertEqual(as_tuples, Table(*GOOD))
        self.assertEqual(as_lists, Table(*GOOD))
        self.assertEqual(Table(above=above, below=below, levels=given, alone=alone), Table(*GOOD))

    def test_levels_of_any_d(self):
        for m in [1, 2, 3]:
            given = levels(2 * m + 1)
            for below in range(1, m + 1):
                for above in range(1, m + 1):
                    table = Table([], given, below, above)
                    for d in range(-30, 31):
                        at = d
                        while at > m:
                            at -= above
                        while at < -m:
                            at += below
                        self.assertEqual(table.level(d), tuple(given[at + m]), (m, below, above, d))
        table = Table([], levels(7), 3, 2)
        for many in [10 ** 9, MOST, 10 ** 200]:
            self.assertEqual(table.level(2 * many), table.level(2))
            self.assertEqual(table.level(2 * many + 1), table.level(3))
            self.assertEqual([table.level(-3 * many - k) for k in range(3)], [table.level(-3 - k) for k in range(3)])
        self.assertEqual(table.level(d=-1), table.levels[2])
        self.assertIs(type(table.level(99)), tuple)

    def test_what_a_table_holds(self):
        table = Table([("a", "b", "none"), ("b", "a", "second")], [[SIDE], [], [("b", "b", "<")]], 1, 1)
        for state in [("a", "b", "none"), ["a", "b", "none"], ("b", "a", "second"), ("a", "b", (-1, "=")),
                      ["a", "b", [-1, "="]], ("a", "b", [-10 ** 50, "="]), ("b", "b", (1, "<")), ("b", "b", (MOST, "<"))]:
            self.assertIs(state in table, True)
            self.assertIs(state not in table, False)
        for state in [("a", "b", "second"), ("b", "a", "none"), ("a", "b", "first"), ("a", "b", (0, "=")),
                      ("a", "b", (-1, "<")), ("a", "b", (1, "=")), ("b", "b", (-1, "<")), ("b", "b", (10 ** 50, "=")),
                      ("x", "y", "none"), ("b", "b", (0, "<"))]:
            self.assertIs(state in table, False)

    def test_no_other_object_is_in_a_table(self):
        table = Table([("a", "b", "none")], [[SIDE]] * 3, 1, 1)
        for thing in [None, 0, True, "", "abc", "none", (), [], ("a",), ("a", "b"), ("a", "b", "none", "none"), SIDE,
                      ("a", "b", None), ("a", "b", 0), ("a", "b", ()), ("a", "b", (0,)), ("a", "b", (0, "=", "=")),
                      ("a", "b", ("=", 0)), ("a", "b", (True, "=")), ("a", "b", (False, "=")), ("a", "b", (0.0, "=")),
                      ("a", "b", ("0", "=")), ("a", "b", (0, None)), ("a", "b", (0, ["="])), ("a", "b", {0: "="}),
                      ("a", 0, "none"), (None, "b", "none"), (["a"], "b", "none"), ("a", "", (0, "=")),
                      ("A", "b", (0, "=")), {"a": 1, "b": 2, "none": 3}, {"a", "b"}, b"abc", object(), Unequal(),
                      EqualToAll(), (EqualToAll(), "b", "none"), ("a", EqualToAll(), (0, "=")), ("a", "b", EqualToAll()),
                      ("a", "b", (EqualToAll(), "=")), ("a", "b", (0, EqualToAll())), ("a", "b", Unequal()),
                      (Unequal(), "b", "none"), ("a", "b", (Unequal(), "=")), ("a", "b", (0, Unequal()))]:
            self.assertIs(thing in table, False)

    def test_equality(self):
        table = Table(*GOOD)
        self.assertTrue(table == Table(*GOOD))
        self.assertFalse(table != Table(*GOOD))
        alone, given, _, _ = GOOD
        five = [[], *given, []]
        for other in [Table(alone[:2], given, 1, 1), Table(alone, [[], [], given[2]], 1, 1), Table(alone, five, 1, 1),
                      Table(alone, given[::-1], 1, 1)]:
            self.assertFalse(table == other)
            self.assertTrue(table != other)
        wide = Table(alone, five, 1, 2)
        self.assertEqual(wide, Table(alone[::-1], five, 1, 2))
        for other in [Table(alone, five, 2, 1), Table(alone, five, 1, 1), Table(alone, five, 2, 2)]:
            self.assertNotEqual(wide, other)

    def test_no_value_of_another_kind_is_equal(self):
        table = Table(*GOOD)
        for other in [None, GOOD, (table.alone, table.levels, 1, 1), "table", 0, object(), Unequal()]:
            self.assertIs(table == other, False)
            self.assertIs(table != other, True)
        self.assertIs(table.__eq__(EqualToAll()), False)

    def test_immutable(self):
        table = Table(*GOOD)
        for name in ["alone", "levels", "below", "above"]:
            with self.assertRaises(AttributeError):
                setattr(table, name, ())
        self.assertEqual(table, Table(*GOOD))

    def test_later_changes_have_no_effect(self):
        alone, given = [["a", "b", "none"]], [[["a", "b", "="]], [], []]
        table = Table(alone, given, 1, 1)
        before = copy.deepcopy((alone, given))
        same = Table(*before, 1, 1)
        self.assertEqual((alone, given), before)
        alone[0][0] = "x"
        alone.append(5)
        given[0][0][2] = "<"
        given[1].append(7)
        given.append([])
        self.assertEqual(table, same)
        self.assertEqual(table.level(-1), (SIDE,))


if __name__ == "__main__":
    unittest.main()
