"""Plain walks over what one loop does, beside a watch or beside itself, to compare with."""

from nearloops.places import PLACES, group
from nearloops.watches import Watch
from tests.reference import deeds, gap_of, place_at, readings, told
from tests.walks import lead_of_loops, lengths_from


def next_of(watch, state, place, word):
    """Return the state of a watch behind a number at this place, for which the loop tells the word."""
    for before, groups, words, after in watch.rules:
        if before == state and any(place in group(name) for name in groups) and (word in words or "*" in words):
            return after
    return state


def lead_of_watch(loop, watch, most):
    """Return a function that tells to which joint states of a loop and a watch one leads."""
    table = deeds(loop)

    def lead(state):
        later = {}
        for place, other_place, firsts, _ in readings(state[2], most):
            word, keeps, after = table[state[0], place]
            for gap in firsts if keeps else [state[2]]:
                later[after, next_of(watch, state[1], other_place, word), gap] = True
        return list(later)
    return lead


def watch_behind(loop, watch, row, tolerance, number):
    """Return the state of a watch behind a row of any length."""
    state = watch.start
    for x, word in zip(row, told(loop, row, tolerance)[0]):
        state = next_of(watch, state, place_at(x, number, tolerance), word)
    return state


def picks(loop, words, row, tolerance):
    """Return the numbers that a loop picks."""
    return [x for x, word in zip(row, told(loop, row, tolerance)[0]) if word in words]


def is_stable(loop, words, row, tolerance):
    """Tell whether the loop picks all numbers again that it picks of a row."""
    picked = picks(loop, words, row, tolerance)
    return picks(loop, words, picked, tolerance) == picked


def lead_of_again(loop, words, most):
    """Return a function that tells where a loop, and itself on what it picks, come to: None if a number is lost."""
    table = deeds(loop)

    def lead(state):
        if state is None:
            return []
        later = {}
        for place, other_place, firsts, seconds in readings(state[2], most):
            word, keeps, after = table[state[0], place]
            other_word, other_keeps, other_after = word, False, state[1]
            if word in words:
                other_word, other_keeps, other_after = table[state[1], other_place]
            if word in words and other_word not in words:
                later[None] = True
            gaps = [(0, "=")] if keeps and other_keeps else firsts if keeps else seconds if other_keeps else [state[2]]
            for gap in gaps:
                later[after, other_after, gap] = True
        return list(later)
    return lead


def lengths_alone(loop):
    """Return how many numbers a loop needs for each pair of a state and of whether it has a kept number."""
    table = deeds(loop)

    def lead(state):
        places = PLACES if state[1] else ["none"]
        return [(table[state[0], place][2], state[1] or table[state[0], place][1]) for place in places]
    return lengths_from({(loop.start, False): 0}, lead)


def _read(table, state, kept, numbers):
    """Return the state and the kept number behind numbers, with the tolerance 5."""
    for x in numbers:
        _, keeps, state = table[state, place_at(x, kept, 5)]
        kept = x if keeps else kept
    return state, kept


def twisted(loop, kind, most):
    """Return the joint states behind an exchange, or a repeated number, with how many numbers they need."""
    table = deeds(loop)
    numbers = range(-5 * (most + 2), 5 * (most + 3))
    starts = {}
    for (state, has_kept), length in lengths_alone(loop).items():
        # The rest 2 of 5 leaves room for two others on each side.
        firsts = numbers if has_kept else [2]
        for x in firsts:
            for y in numbers if kind == "order" else [None]:
                one, other = ([x, y], [y, x]) if kind == "order" else ([x], [x, x])
                (after, kept), (other_after, other_kept) = [
                    _read(table, state, 2 if has_kept else None, reading) for reading in (one, other)]
                gap = gap_of(kept, other_kept, 5)
                if isinstance(gap, str) or abs(gap[0]) <= most:
                    later, cost = (after, other_after, gap), length + len(one)
                    starts[later] = min(cost, starts.get(later, cost))
    return starts


def shortest_twisted(loop, kind, most):
    """Return how long a row is, of which an exchange or a repeated number changes the answer, None if there is none."""
    lengths = lengths_from(twisted(loop, kind, most), lead_of_loops(loop, loop, most))
    found = [length for state, length in lengths.items() if loop.answers[state[0]] != loop.answers[state[1]]]
    return min(found, default=None)


def random_watch(source, words):
    """Return a small watch for these words."""
    states = "wxyz"[:source.randint(2, 3)]
    names = ["=", "near", "far", "less", "more", "any", "over", "cell", *PLACES]
    rules = []
    for k in range(source.randint(1, 5)):
        groups = source.choices(names, k=source.randint(1, 2))
        later = source.choice(states[1:])
        rules.append((states[0] if k == 0 else source.choice(states), groups, source.choices([*words, "*"], k=1), later))
    later = Watch(rules, []).states[1:]
    return Watch(rules, source.sample(later, source.randint(0, min(2, len(later)))))
