"""Plain walks over joint states, with all differences up to a bound, to compare with."""

import random

from nearloops.loops import Loop
from tests.reference import deeds, led_to

SIGNS = ["<", "=", ">"]


def lengths_from(starts, lead):
    """Return how many numbers each state needs, from a dict of the first ones with what they have cost."""
    lengths, count, front = {}, 0, []
    while front or any(cost >= count for cost in starts.values()):
        front = [state for state in [*front, *(state for state, cost in starts.items() if cost == count)]
                 if state not in lengths]
        lengths.update((state, count) for state in front)
        front = list(dict.fromkeys(later for state in front for later in lead(state)))
        count += 1
    return lengths


def lead_of_loops(one, other, most):
    """Return a function that tells to which joint states of two loops one leads, with a d up to most."""
    tables = deeds(one), deeds(other)
    return lambda state: led_to(*tables, state, most)[0]


def ring(source, most_states):
    """Return a loop that goes round in its states, mostly by single steps, and stops when a number is another one."""
    names = "abcdef"[:source.randint(2, most_states)]
    live = names[:-1]
    places = ["+=", "+=", "-=", "=", "above", "below", "+>", "-<", "any", "far", "near"]
    rules = [("a", ("none",), "x", True, "a")]
    for k, state in enumerate(live):
        for _ in range(source.choice([1, 1, 2])):
            later = live[(k + 1) % len(live)] if source.random() < 0.8 else source.choice(live)
            rules.append((state, (source.choice(places),), source.choice("xxy"), source.random() < 0.75, later))
        rules.append((state, ("any",), "x", False, names[-1]))
    loop = Loop(rules)
    return Loop(rules, {state: source.choice(["", "", "p"]) for state in loop.states})


def random_rings(seed, count, most_states=4):
    """Yield pairs of loops that climb in rounds, the same ones in each run."""
    source = random.Random(seed)
    for _ in range(count):
        yield ring(source, most_states), ring(source, most_states)


def table_states(table, most):
    """Return all joint states that a table holds, with a d up to most."""
    sides = [(s, t, (d, sign)) for d in range(-most, most + 1) for s, t, sign in table.level(d)]
    return [*table.alone, *sides]


def is_closed_table(table, begin, lead, most):
    """Tell whether a table holds the first joint state, and all to which one leads that it holds with a d up to most."""
    return begin in table and all(later in table for state in table_states(table, most) for later in lead(state))


def shown(one, other, state, most):
    """Return the kinds of differences that a joint state shows."""
    kinds = led_to(deeds(one), deeds(other), state, most)[1]
    if one.answers[state[0]] != other.answers[state[1]]:
        kinds.add("answers")
    return kinds | {"all"} if kinds else kinds


def changed(source, table, states):
    """Return a table that is nearly a given one: some side states more, or some less, or other periods."""
    alone, levels = list(table.alone), [list(level) for level in table.levels]
    below, above, m = table.below, table.above, len(levels) // 2
    for _ in range(source.randint(1, 3)):
        way = source.random()
        level = source.choice(levels)
        if way < 0.3 and level:
            level.remove(source.choice(level))
        elif way < 0.6:
            level.append(source.choice(states))
        elif way < 0.7:
            alone = source.sample(alone, len(alone) - 1) if alone else alone
        elif way < 0.8:
            alone.append((*source.choice(states)[:2], source.choice(["none", "first", "second"])))
        else:
            below, above = source.randint(1, m), source.randint(1, m)
    return type(table)(alone, levels, below, above)


def stretched(table, more, below=None, above=None):
    """Return a table that holds the same joint states, with more levels on each side, and perhaps other periods."""
    m = len(table.levels) // 2 + more
    return type(table)(table.alone, [table.level(d) for d in range(-m, m + 1)], below or table.below, above or table.above)


def without(table, state):
    """Return a table without one of its joint states, in whose d it stands for no others."""
    if isinstance(state[2], str):
        return type(table)([other for other in table.alone if other != state], table.levels, table.below, table.above)
    m = len(table.levels) // 2
    levels = [list(level) for level in table.levels]
    levels[state[2][0] + m].remove((state[0], state[1], state[2][1]))
    return type(table)(table.alone, levels, table.below, table.above)
