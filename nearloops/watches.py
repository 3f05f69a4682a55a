"""Watches, which look at a loop while it reads a row."""

from nearloops.checks import check_number, check_row, check_tolerance, is_name
from nearloops.closed import is_closed, known_states
from nearloops.errors import BadWatch, UnknownState
from nearloops.pairs import FAR, Duo
from nearloops.papers import Table
from nearloops.places import are_groups, group, place
from nearloops.reached import reached_parts
from nearloops.runs import run
from nearloops.search import Search
from nearloops.witness import Draft, spots_between

MOST_RULES = 20
MOST_STATES = 6
ANY_WORD = "*"


def _are_words(things):
    """Tell whether any object is a list or tuple of one or more words of a rule."""
    if not isinstance(things, (list, tuple)) or len(things) == 0:
        return False
    return all([is_name(thing) or (isinstance(thing, str) and thing == ANY_WORD) for thing in things])


def _is_rule(thing):
    """Tell whether any object has the form of a rule of a watch."""
    if not isinstance(thing, (list, tuple)) or len(thing) != 4:
        return False
    state, groups, words, later = thing
    return is_name(state) and are_groups(groups) and _are_words(words) and is_name(later)


def _checked_rules(rules):
    """Return the rules and the states as tuples, or raise BadWatch."""
    checked = []
    states = {}
    for line, rule in enumerate(rules, start=1):
        if line > MOST_RULES or not _is_rule(rule):
            raise BadWatch(line)
        state, groups, words, later = rule
        states[state] = True
        states[later] = True
        if len(states) > MOST_STATES:
            raise BadWatch(line)
        checked.append((state, tuple(groups), tuple(words), later))
    if len(checked) == 0:
        raise BadWatch(1)
    return tuple(checked), tuple(states)


def _checked_alarms(states, alarms):
    """Return the tuple of the alarms in the order of the states, or raise UnknownState."""
    for alarm in alarms:
        if not isinstance(alarm, str) or alarm not in states:
            raise UnknownState(alarm)
    return tuple([state for state in states if state in alarms])


class Watch:
    """An immutable watch."""

    def __init__(self, rules, alarms):
        checked, states = _checked_rules(rules)
        rung = _checked_alarms(states, alarms)
        self._rules = checked
        self._states = states
        self._alarms = rung

    @property
    def rules(self):
        """The tuple of the rules."""
        return self._rules

    @property
    def states(self):
        """The tuple of the states, in the order of their first occurrence."""
        return self._states

    @property
    def start(self):
        """The state in which the watch starts."""
        return self._states[0]

    @property
    def alarms(self):
        """The tuple of the alarms, in the order of the states."""
        return self._alarms

    def __eq__(self, other):
        if not isinstance(other, Watch):
            return False
        return self._rules == other._rules and self._alarms == other._alarms


def _state_behind(watch, state, found, word):
    """Return the state of a watch behind a number with this place and word."""
    for rule in watch.rules:
        if rule[0] == state and (word in rule[2] or ANY_WORD in rule[2]):
            if any([found in group(name) for name in rule[1]]):
                return rule[3]
    return state


class Guard(Duo):
    """A loop and a watch, whose number takes the place of the kept number of a second loop."""

    def __init__(self, loop, watch):
        super().__init__(loop, watch.states, "second")
        self.watch = watch
        self.behind = {}

    def other_step(self, state, found, word):
        """Return what the watch does with a number for which the loop tells the word."""
        key = (state, found, word)
        if key not in self.behind:
            self.behind[key] = (word, False, _state_behind(self.watch, state, found, word))
        return self.behind[key]


def watched(loop, watch, row, tolerance, number):
    """Return the state of a watch with this number when the loop has read the row."""
    check_row(row)
    check_number(number)
    check_tolerance(tolerance)
    state = watch.start
    for item, word in zip(row, run(loop, row, tolerance).words):
        state = _state_behind(watch, state, place(item, number, tolerance), word)
    return state


def rings(loop, watch):
    """Return a shortest row, a tolerance and a number with which the watch rings, None if it does not ring."""
    guard = Guard(loop, watch)
    search = Search(guard, FAR, lambda state: 0 if state[1] in watch.alarms else None, [(guard.begin, 0)])
    states = search.shortest()
    if states is None:
        return None
    draft = Draft()
    number = (0, draft.new_rest(0))
    draft.follow(guard, states, spots_between(guard, states), (None, number))
    return draft.row(), draft.rank_count(), draft.whole(number)


def _rings_nowhere(watch, table):
    """Tell whether a table holds no joint state with an alarm."""
    states = [state[1] for state in table.alone]
    for level in table.levels:
        states.extend([side[1] for side in level])
    return all([state not in watch.alarms for state in states])


def calm(loop, watch):
    """Return a paper for a loop and a watch, None if the watch rings."""
    alone, levels, below, above = reached_parts(Guard(loop, watch))
    table = Table(alone, levels, below, above)
    return table if _rings_nowhere(watch, table) else None


def is_calm(loop, watch, table):
    """Tell whether a table is a paper for a loop and a watch."""
    guard = Guard(loop, watch)
    if not known_states(guard, table) or not all([state[2] == "second" for state in table.alone]):
        return False
    return _rings_nowhere(watch, table) and is_closed(guard, table)


def apart(word):
    """Return the watch that rings if the loop tells the word for two numbers that are near to one another."""
    rules = [
        ("wait", ("=",), (word,), "seen"),
        ("seen", ("near",), (word,), "bad"),
    ]
    return Watch(rules, ["bad"])


def covered(word):
    """Return the watch that rings if a number is far from all those for which the loop tells the word."""
    rules = [
        ("wait", ("near",), (word,), "good"),
        ("wait", ("=",), (ANY_WORD,), "bad"),
        ("bad", ("near",), (word,), "good"),
    ]
    return Watch(rules, ["bad"])
