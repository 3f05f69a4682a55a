"""Loops: their rules and answers, and their text."""

from nearloops.checks import is_name
from nearloops.errors import BadAnswer, BadGroup, BadLoop, UnknownState
from nearloops.places import are_groups, group, is_place

MOST_RULES = 40
MOST_STATES = 6


def _is_rule(thing):
    """Tell whether any object has the form of a rule."""
    if not isinstance(thing, (list, tuple)) or len(thing) != 5:
        return False
    state, groups, word, keeps, later = thing
    if not isinstance(keeps, bool) or not are_groups(groups):
        return False
    return is_name(state) and is_name(word) and is_name(later)


def _checked_rules(rules):
    """Return the rules and the states as tuples, or raise BadLoop."""
    checked = []
    states = {}
    for line, rule in enumerate(rules, start=1):
        if line > MOST_RULES or not _is_rule(rule):
            raise BadLoop(line)
        state, groups, word, keeps, later = rule
        states[state] = True
        states[later] = True
        if len(states) > MOST_STATES:
            raise BadLoop(line)
        checked.append((state, tuple(groups), word, keeps, later))
    if len(checked) == 0:
        raise BadLoop(1)
    return tuple(checked), tuple(states)


def _is_answer(thing):
    """Tell whether any object is an answer of a state."""
    return is_name(thing) or (isinstance(thing, str) and thing == "")


def _checked_answers(states, answers):
    """Return the tuple of the answers of the states, or raise an error."""
    given = {} if answers is None else answers
    for state in sorted(given):
        if state not in states:
            raise UnknownState(state)
    checked = [given.get(state, "") for state in states]
    for answer in checked:
        if not _is_answer(answer):
            raise BadAnswer(answer)
    return tuple(checked)


def _used_rules(rules):
    """Return a dict from pairs of a state and a place to the rule that is used."""
    used = {}
    for index, rule in enumerate(rules):
        for name in rule[1]:
            places = ("none",) if name == "none" else group(name)
            for place in places:
                used.setdefault((rule[0], place), index)
    return used


def _read_rule(line):
    """Return the rule of a line, None if the line is not built as one of a rule."""
    head, _, tail = line.partition(":")
    state, *groups = head.split(" ")
    parts = tail.split(" ")
    if len(parts) != 5 or parts[0] != "" or parts[3] != "->":
        return None
    if parts[2] not in ("keep", "pass"):
        return None
    return (state, groups, parts[1], parts[2] == "keep", parts[4])


def _read_rules(lines):
    """Return the rules of the lines before the first one that is none of a rule."""
    rules = []
    for line in lines:
        rule = _read_rule(line)
        if rule is None:
            break
        rules.append(rule)
    return rules


def _read_answers(lines, behind, states):
    """Return the answers of all lines behind those of the rules, or raise BadLoop."""
    answers = {}
    least = 0
    for line, text in enumerate(lines[behind:], start=behind + 1):
        parts = text.split(" ")
        if len(parts) != 3 or parts[0] != "answer" or not is_name(parts[2]):
            raise BadLoop(line)
        if parts[1] not in states[least:]:
            raise BadLoop(line)
        least = states.index(parts[1]) + 1
        answers[parts[1]] = parts[2]
    return answers


def _rule_text(rule):
    """Return the line of a rule."""
    state, groups, word, keeps, later = rule
    head = " ".join([state, *groups])
    deed = "keep" if keeps else "pass"
    return f"{head}: {word} {deed} -> {later}"


class Loop:
    """An immutable loop."""

    def __init__(self, rules, answers=None):
        checked, states = _checked_rules(rules)
        told = _checked_answers(states, answers)
        self._rules = checked
        self._states = states
        self._answers = told
        self._used = _used_rules(checked)

    @classmethod
    def parse(cls, text):
        """Return the loop that has the text."""
        lines = text.split("\n")
        rules = _read_rules(lines)
        # The rules are checked first: a wrong one stands before all other lines.
        _, states = _checked_rules(rules)
        return cls(rules, _read_answers(lines, len(rules), states))

    @property
    def rules(self):
        """The tuple of the rules."""
        return self._rules

    @property
    def states(self):
        """The tuple of the states, in the order of their first occurrence."""
        return self._states

    @property
    def start(self):
        """The state in which the loop starts."""
        return self._states[0]

    @property
    def answers(self):
        """A new dict from all states to their answers."""
        return dict(zip(self._states, self._answers))

    def fitting(self, state, place):
        """Return the index of the rule that is used, None if no rule fits."""
        if not isinstance(state, str) or state not in self._states:
            raise UnknownState(state)
        if not is_place(place) and not (isinstance(place, str) and place == "none"):
            raise BadGroup(place)
        return self._used.get((state, place))

    def text(self):
        """Return the text of the loop."""
        lines = [_rule_text(rule) for rule in self._rules]
        for state, answer in zip(self._states, self._answers):
            if answer != "":
                lines.append(f"answer {state} {answer}")
        return "\n".join(lines)

    def __len__(self):
        return len(self._rules)

    def __eq__(self, other):
        if not isinstance(other, Loop):
            return False
        return self._rules == other._rules and self._answers == other._answers
