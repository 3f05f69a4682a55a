"""Point 1 and the head of the interface, over the whole program."""

import ast
import copy
import importlib
import inspect
import os
import pathlib
import subprocess
import sys
import unittest

from nearloops import errors
from nearloops.again import again
from nearloops.excursions import excursions
from nearloops.joints import joint, leads, way
from nearloops.kinds import kinds, met
from nearloops.known import cells, chain, leader, peak
from nearloops.loops import Loop
from nearloops.orders import order, repeats
from nearloops.papers import Table, is_paper, paper
from nearloops.partings import parting, same
from nearloops.places import group, place, turned
from nearloops.rows import ranked, same_shape
from nearloops.runs import run
from nearloops.watches import Watch, apart, calm, covered, is_calm, rings, watched
from tests.helpers import MOST, EqualToAll, NearCase, Unequal

ROOT = pathlib.Path(__file__).resolve().parent.parent
RULES = [("a", ["none", "far"], "new", True, "a"), ("a", ["near"], "old", False, "b")]
WATCH_RULES = [("w", ["="], ["*"], "v"), ("v", ["near"], ["new", "join"], "w")]
STATE = ("seek", "seek", (1, "<"))


def calls():
    """Return all functions and classes of the interface, each with new arguments by their names."""
    one, other, watch = chain(), leader(), apart("new")
    table, calm_table = paper(one, other, "answers"), calm(other, covered("new"))
    pair = {"one": one, "other": other}
    twice = Loop([("a", ("none",), "x", True, "b"), ("b", ("=",), "x", False, "c")], {"c": "p"})
    return [
        (place, {"x": 7, "kept": 0, "tolerance": 5}), (group, {"name": "near"}), (turned, {"place": "+>"}),
        (Loop, {"rules": RULES, "answers": {"b": "seen"}}), (Loop.parse, {"text": "a none: x keep -> a"}),
        (one.fitting, {"state": "seek", "place": "above"}), (one.text, {}),
        (run, {"loop": one, "row": [3, 9, 4], "tolerance": 2}),
        (ranked, {"row": [7, 0, -3], "tolerance": 5}),
        (same_shape, {"row": [0, 7], "tolerance": 5, "other": [10, 13], "other_tolerance": 2}),
        (joint, {**pair, "row": [0, 5, 3], "tolerance": 3}), (leads, {**pair, "state": list(STATE), "later": STATE}),
        (way, {**pair, "state": ["seek", "seek", [0, "<"]]}), (excursions, pair),
        (Table, {"alone": [["a", "b", "none"]], "levels": [[], [["a", "b", "="]], []], "below": 1, "above": 1}),
        (table.level, {"d": 10 ** 40}), (paper, {**pair, "by": "answers"}),
        (is_paper, {**pair, "table": table, "by": "answers"}), (same, {**pair, "by": "words"}),
        (parting, {**pair, "by": "keeps"}),
        (Watch, {"rules": WATCH_RULES, "alarms": ["v", "v"]}),
        (watched, {"loop": one, "watch": watch, "row": [0, 9, 0], "tolerance": 2, "number": 0}),
        (rings, {"loop": one, "watch": watch}), (calm, {"loop": other, "watch": covered("new")}),
        (is_calm, {"loop": other, "watch": covered("new"), "table": calm_table}), (apart, {"word": "x"}),
        (covered, {"word": "x"}), (again, {"loop": one, "words": ["new"]}), (order, {"loop": peak()}),
        (repeats, {"loop": twice}), (met, {"loop": peak()}), (kinds, {"loop": peak()}), (leader, {}), (chain, {}),
        (cells, {}), (peak, {}),
    ]


def frozen(thing):
    """Return what a value shows, so that it can be compared with what it shows later."""
    if isinstance(thing, Loop):
        return ("loop", thing.rules, dict(thing.answers), thing.text())
    if isinstance(thing, Watch):
        return ("watch", thing.rules, thing.states, thing.alarms)
    if isinstance(thing, Table):
        return ("table", thing.alone, thing.levels, thing.below, thing.above)
    return copy.deepcopy(thing)


def spoil(thing):
    """Change all lists and dicts in a value."""
    if isinstance(thing, (list, tuple)):
        for part in thing:
            spoil(part)
    if isinstance(thing, list):
        thing.append("spoilt")
    if isinstance(thing, dict):
        thing.clear()


def as_tuples(thing):
    """Return tuples for lists."""
    return tuple(as_tuples(part) for part in thing) if isinstance(thing, (list, tuple)) else thing


def as_lists(thing):
    """Return lists for tuples."""
    return [as_lists(part) for part in thing] if isinstance(thing, (list, tuple)) else thing


class WholeTest(NearCase):
    def test_all_functions_and_classes_are_called(self):
        called = {getattr(call, "__func__", call) for call, _ in calls()}
        for name in ["again", "excursions", "joints", "kinds", "known", "loops", "orders", "papers", "partings", "places",
                     "rows", "runs", "watches"]:
            tree = ast.parse((ROOT / "nearloops" / (name + ".py")).read_text("utf-8"))
            module = importlib.import_module("nearloops." + name)
            for node in tree.body:
                if isinstance(node, (ast.FunctionDef, ast.ClassDef)) and node.name in INTERFACE:
                    self.assertIn(getattr(module, node.name), called)

    def test_parameters_and_their_names(self):
        for call, named in calls():
            self.assertEqual([name for name in inspect.signature(call).parameters if name != "self"], list(named), call)
            self.assertEqual(frozen(call(**named)), frozen(call(*list(named.values()))))

    def test_asked_twice(self):
        for call, named in calls():
            before = {name: frozen(value) for name, value in named.items()}
            first = call(**named)
            shown = frozen(first)
            self.assertEqual({name: frozen(value) for name, value in named.items()}, before, call)
            spoil(first)
            self.assertEqual(frozen(call(**named)), shown, call)
            self.assertEqual({name: frozen(value) for name, value in named.items()}, before, call)

    def test_equal_arguments_that_are_made_anew(self):
        for (call, named), (other, other_named) in zip(calls(), calls()):
            self.assertEqual(frozen(call(**named)), frozen(other(**other_named)), call)

    def test_lists_for_tuples_and_tuples_for_lists(self):
        for call, named in calls():
            expected = frozen(call(**named))
            for change in (as_tuples, as_lists):
                self.assertEqual(frozen(call(**{name: change(value) for name, value in named.items()})), expected, call)

    def test_values_do_not_depend_on_the_hash_of_strings(self):
        text = ("from tests.test_whole import calls, frozen\n"
                "print([repr(frozen(call(**named))) for call, named in calls() if call.__name__ != 'run'])\n")
        shown = [subprocess.run([sys.executable, "-B", "-c", text], cwd=ROOT, env={**os.environ, "PYTHONHASHSEED": seed}, check=True,
                                capture_output=True).stdout for seed in ("1", "2")]
        self.assertEqual(shown[0], shown[1])
        self.assertIn(b"seek", shown[0])

    def test_equal_to_no_value_of_another_kind(self):
        objects = [chain(), run(chain(), [1, 2], 1), Table([], [[], [], []], 1, 1), apart("new")]
        others = [None, True, 0, 1, "seek", (), [], {}, object(), Unequal(), chain().rules, chain().text()]
        for k, thing in enumerate(objects):
            for other in [*others, *objects[:k], *objects[k + 1:]]:
                self.assertIs(thing == other, False)
                self.assertIs(thing != other, True)
            self.assertIs(thing.__eq__(EqualToAll()), False)
            self.assertIs(thing == copy.copy(thing), True)
            self.assertIs(thing != copy.copy(thing), False)

    def test_a_call_that_raises_changes_nothing(self):
        rules, alarms = copy.deepcopy(WATCH_RULES), ["v", "x"]
        before = copy.deepcopy((rules, alarms))
        self.assertFails(errors.UnknownState, "x", Watch, rules, alarms)
        self.assertEqual((rules, alarms), before)
        row = [0, None]
        self.assertFails(errors.BadNumber, None, watched, chain(), apart("new"), row, 0, None)
        self.assertEqual(row, [0, None])

    def test_the_order_of_the_checks(self):
        one, watch = chain(), apart("new")
        self.assertRaises(errors.BadRow, watched, one, watch, "row", None, None)
        self.assertFails(errors.BadNumber, MOST + 1, watched, one, watch, [0, MOST + 1, None], None, True)
        self.assertFails(errors.BadNumber, True, watched, one, watch, [0], None, True)
        self.assertFails(errors.BadTolerance, 0, watched, one, watch, [0], 0, 0)
        self.assertRaises(errors.BadRow, run, one, 7, 0)
        self.assertFails(errors.BadNumber, "1", run, one, ["1"], 0)
        self.assertRaises(errors.BadRow, joint, one, one, [0] * 1001, 0)
        self.assertFails(errors.BadTolerance, False, same_shape, [0], False, None, None)
        self.assertFails(errors.BadWatch, 2, Watch, [("a", ("=",), ("*",), "a"), ("a", ("=",), ("!",), "a")], [None])

    def test_rows_that_are_returned_are_rows_of_plain_integers(self):
        watch = covered("new")
        for row, tolerance, more in [rings(chain(), watch), order(peak())]:
            self.assertEqual([type(row), type(tolerance), type(more)], [list, int, int])
            self.assertTrue(all(type(x) is int and abs(x) <= MOST for x in row))
        for row, tolerance in [parting(chain(), leader()), way(chain(), leader(), STATE) or ([], 1), again(chain(), ["new"])]:
            self.assertEqual([type(row), type(tolerance)], [list, int])

    def test_errors_are_direct_subclasses(self):
        names = [name for name, thing in vars(errors).items() if isinstance(thing, type) and name != "NearError"]
        self.assertEqual(len(names), 11)
        for name in names:
            self.assertEqual(getattr(errors, name).__bases__, (errors.NearError,))
        self.assertEqual(errors.NearError.__bases__, (ValueError,))


INTERFACE = """place group turned Loop run ranked same_shape joint leads way excursions Table paper is_paper same parting Watch
    watched rings calm is_calm apart covered again order repeats met kinds leader chain cells peak""".split()


if __name__ == "__main__":
    unittest.main()
