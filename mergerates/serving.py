"""Which strokes of a join world serve which questions, and what closes two of them at once."""

from mergerates.amounts import summed
from mergerates.checks import parting_on, partings_on
from mergerates.errors import NotInside
from mergerates.labels import all_open, all_partings, all_singles, is_finer, joined
from mergerates.means import stays_by_sums


def strokes_alone(j):
    """The list of the strokes without their weights, ascending."""
    return [x for x, _ in j.strokes()]


def check_stroke(j, x):
    if x not in strokes_alone(j):
        raise NotInside(-1)


def joins_of_sets(n, strokes):
    """The list of the joins of all sets of the strokes, ascending."""
    found = {all_singles(n): True}
    # Finer strokes first: one that has been found when it comes is a join of some before it and adds nothing.
    for x in sorted(strokes, reverse=True):
        if x not in found:
            for t in list(found):
                found[joined(t, x)] = True
    return sorted(found)


def gatherings(j, *, without=None):
    """The list of all gatherings, ascending, or of those of the other strokes if a stroke is left out."""
    if without is None:
        return joins_of_sets(j.size, strokes_alone(j))
    left = parting_on(j.size, without)
    check_stroke(j, left)
    return joins_of_sets(j.size, [x for x in strokes_alone(j) if x != left])


def closes(t, x, r):
    """True if r is open at t and closed at the join of t and x."""
    return not is_finer(r, t) and is_finer(r, joined(t, x))


def served_by(met, x, r):
    """The least of the gatherings at which x closes r, None if there is none."""
    # Only those not coarser than x come in question, and they need no x to be gathered.
    for t in met:
        if closes(t, x, r):
            return t
    return None


def served_at(j, x, r):
    """The least gathering of the other strokes at which x closes r, None if x does not serve r."""
    stroke, question = partings_on(j.size, x, r)
    check_stroke(j, stroke)
    return served_by(gatherings(j), stroke, question)


def serves(j, x, r):
    """True if the stroke x serves the question r."""
    return served_at(j, x, r) is not None


def servers(j, r):
    """The list of the strokes that serve r, ascending."""
    return both_served(j, r, r)


def both_served(j, r, s):
    """The list of the strokes that serve both questions, ascending."""
    first, second = partings_on(j.size, r, s)
    met = gatherings(j)
    return [x for x in strokes_alone(j)
            if served_by(met, x, first) is not None and served_by(met, x, second) is not None]


def closing_at_once(j, r, s):
    """The list of the tuples (t, x) of a gathering and a stroke that closes both questions there, ascending."""
    first, second = partings_on(j.size, r, s)
    strokes = strokes_alone(j)
    return [(t, x) for t in gatherings(j) for x in strokes if closes(t, x, first) and closes(t, x, second)]


def chance_at_once(j, r, s):
    """The chance that one move of the run from singles closes both questions."""
    first, second = partings_on(j.size, r, s)
    parts = []
    time_at = {t: time for t, time in zip(all_partings(j.size), stays_by_sums(j))}
    for t in all_open(first, second):
        # No move leads on from top, so the time there, which is None, is not asked for.
        rates = [rate for goal, rate in j.from_here(t) if is_finer(first, goal) and is_finer(second, goal)]
        parts.extend([(time_at[t][0] * rate, time_at[t][1]) for rate in rates])
    return summed(parts)
