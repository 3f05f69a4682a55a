"""What the document says, done again in the plainest way, to compare with."""

import functools
import random

from nearloops.loops import Loop
from nearloops.places import PLACES, group

EXACT = PLACES[1:-1]


def place_at(x, kept, tolerance):
    """Return the place of x at a kept number, "none" without one."""
    if kept is None:
        return "none"
    cells = x // tolerance - kept // tolerance
    if abs(cells) > 1:
        return "below" if cells < 0 else "above"
    rest, kept_rest = x % tolerance, kept % tolerance
    sign = "<" if rest < kept_rest else "=" if rest == kept_rest else ">"
    return {-1: "-", 0: "", 1: "+"}[cells] + sign


def deeds(loop):
    """Return what the loop does: a dict from (state, place) to (word, keeps, next)."""
    table = {}
    for state in loop.states:
        for place in [*PLACES, "none"]:
            fits = [rule[2:] for rule in loop.rules if rule[0] == state
                    and any(place == name or place in group(name) for name in rule[1])]
            table[state, place] = fits[0] if fits else ("pass", False, state)
    return table


def told(loop, row, tolerance):
    """Return the words, the keeps, the last kept number, the state and its answer, for rows of any length."""
    table = deeds(loop)
    state, kept, words, keeps = loop.start, None, [], []
    for x in row:
        word, is_kept, state = table[state, place_at(x, kept, tolerance)]
        words.append(word)
        keeps.append(is_kept)
        kept = x if is_kept else kept
    return words, keeps, kept, state, loop.answers[state]


def gap_of(kept, other, tolerance):
    """Return the gap of two kept numbers."""
    if kept is None or other is None:
        return "none" if kept is other else "first" if other is None else "second"
    rest, other_rest = kept % tolerance, other % tolerance
    sign = "<" if other_rest < rest else "=" if other_rest == rest else ">"
    return (other // tolerance - kept // tolerance, sign)


def joint_behind(one, other, row, tolerance):
    """Return the joint state behind a row of any length."""
    first, second = told(one, row, tolerance), told(other, row, tolerance)
    return (first[3], second[3], gap_of(first[2], second[2], tolerance))


def differs(one, other, row, tolerance, by):
    """Tell whether the runs on a row of any length differ."""
    first, second = told(one, row, tolerance), told(other, row, tolerance)
    found = {"words": first[0] != second[0], "keeps": first[1] != second[1], "answers": first[4] != second[4]}
    return any(found.values()) if by == "all" else found[by]


def few_numbers(most, cells=3):
    """Yield rows, with a tolerance, that have all shapes of up to so many numbers with so near cells."""
    tolerance = 2 * most + 1
    rows = [[]]
    for count in range(most + 1):
        yield from ((row, tolerance) for row in rows)
        # The first number has the middle rest; those of the next ones are between, and beside, all before.
        rests = range(tolerance) if count else [most]
        reach = range(-cells * count, cells * count + 1)
        rows = [[*row, cell * tolerance + rest] for row in rows for cell in reach for rest in rests]


def numbers_of(gap):
    """Return two kept numbers with the tolerance 5 that have a gap."""
    if isinstance(gap, str):
        return (2 if gap == "first" else None), (2 if gap == "second" else None)
    rest, other_rest = {"<": (3, 1), "=": (2, 2), ">": (1, 3)}[gap[1]]
    return rest, gap[0] * 5 + other_rest


@functools.cache
def readings(gap, most):
    """Return the pairs of places of a number, with the gaps if the first, and if the second loop keeps it."""
    kept, other = numbers_of(gap)
    cells = [number // 5 for number in (kept, other) if number is not None] or [0]
    found = {}
    for x in range((min(cells) - most - 3) * 5, (max(cells) + most + 4) * 5):
        firsts, seconds = found.setdefault((place_at(x, kept, 5), place_at(x, other, 5)), ({}, {}))
        for gaps, later in [(firsts, gap_of(x, other, 5)), (seconds, gap_of(kept, x, 5))]:
            if isinstance(later, str) or abs(later[0]) <= most:
                gaps[later] = True
    return [(*places, list(firsts), list(seconds)) for places, (firsts, seconds) in found.items()]


def led_to(one_deeds, other_deeds, state, most):
    """Return the joint states with a d up to most to which one leads, and by what the loops can differ there."""
    later, kinds = {}, set()
    for place, other_place, firsts, seconds in readings(state[2], most):
        word, keeps, after = one_deeds[state[0], place]
        other_word, other_keeps, other_after = other_deeds[state[1], other_place]
        if word != other_word:
            kinds.add("words")
        if keeps != other_keeps:
            kinds.add("keeps")
        gaps = [(0, "=")] if keeps and other_keeps else firsts if keeps else seconds if other_keeps else [state[2]]
        for gap in gaps:
            later[after, other_after, gap] = True
    return list(later), kinds


def explored(one, other, most):
    """Return how many numbers each joint state needs, and how many each kind of difference, with a d up to most."""
    tables = deeds(one), deeds(other)
    start = (one.start, other.start, "none")
    lengths, front, partings = {start: 0}, [start], {}
    while front:
        reached = []
        for state in front:
            later, kinds = led_to(*tables, state, most)
            length = lengths[state]
            for kind in kinds:
                partings.setdefault(kind, length + 1)
            if one.answers[state[0]] != other.answers[state[1]]:
                partings.setdefault("answers", length)
            reached += [state for state in later if state not in lengths]
            for state in later:
                lengths.setdefault(state, length + 1)
        front = list(dict.fromkeys(reached))
    if partings:
        partings["all"] = min(partings.values())
    return lengths, partings


def random_loop(source, most_states, names=("any", "near", "far", "less", "more", "under", "over", "cell", *PLACES)):
    """Return a small loop with few words, so that two of them may well do the same."""
    states = "abcdef"[:source.randint(1, most_states)]
    words = source.choice([["x"], ["x", "y"]])
    rules = []
    for _ in range(source.randint(1, 3 * len(states) + 1)):
        groups = source.choices(names, k=source.randint(1, 2)) + ["none"] * (source.random() < 0.3)
        keeps = source.random() < 0.6
        rules.append((source.choice(states), groups, source.choice(words), keeps, source.choice(states)))
    loop = Loop(rules)
    return Loop(rules, {state: source.choice(["", "", "", "p"]) for state in loop.states})


def random_pairs(seed, count, most_states=3):
    """Yield pairs of small loops, the same ones in each run."""
    source = random.Random(seed)
    for number in range(count):
        names = [EXACT] if number % 2 else []
        one = random_loop(source, most_states, *names)
        other = random_loop(source, most_states, *names)
        if number % 3 == 0:
            # Nearly the same loop.
            rules = one.rules[:-1] or one.rules
            answers = one.answers
            other = Loop(rules, {state: answers[state] for state in Loop(rules).states})
        yield one, other
