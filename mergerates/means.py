"""Mean times of join worlds, by sums over their breaking rates."""

from mergerates.amounts import reduced, summed
from mergerates.breaking import breaking_rates
from mergerates.checks import parting_on, partings_on
from mergerates.labels import all_open, all_partings, all_singles, coarser, is_finer, joined, mobius, viewed
from mergerates.tables import told_below


def time_of_rate(rate):
    """The mean time till something comes at this rate, None if it never comes."""
    return None if rate == 0 else (1, rate)


def time_below(j, t):
    """The mean time until a run that stands below t has left it, None if it never does."""
    return time_of_rate(j.breaking(t))


def stays_by_sums(j):
    """The table of the mean times spent at each parting in runs from singles, None at top."""
    times = [(0, 1) if rate == 0 else (1, rate) for rate in breaking_rates(j)]
    # Above top the sums are 0: the rate at r is that at the meet of r and top.
    found = list(told_below(j.size, times))
    found[all_partings(j.size).index(j.top)] = None
    return tuple(found)


def stay_between(j, p, t):
    """The mean time spent at t in a run from p, None if it ends there."""
    first, last = partings_on(j.size, p, t)
    if last == joined(first, j.top):
        return None
    if is_finer(j.top, last):
        return (0, 1)
    return summed([(mobius(viewed(r, last)), j.breaking(r)) for r in coarser(first) if is_finer(r, last)])


def last_chances(j):
    """The table of the chances of being the last parting before top."""
    top = j.top
    found = []
    for t, time in zip(all_partings(j.size), stays_by_sums(j)):
        many = j(t, top)
        found.append((0, 1) if many == 0 else reduced(time[0] * many, time[1]))
    return tuple(found)


def time_among(j, chosen):
    """The sum of the stays at the chosen partings, None if top is one of them."""
    inside = {t: True for t in chosen}
    times = [time for t, time in zip(all_partings(j.size), stays_by_sums(j)) if t in inside]
    return None if None in times else summed(times)


def question_time(j, r):
    """The mean time till the blocks of r are joined, None if they need not ever be."""
    taken = parting_on(j.size, r)
    return time_among(j, all_open(taken, taken))


def whole_time(j):
    """The mean time till all names are joined, None if they need not ever be."""
    return question_time(j, (0,) * j.size)


def surely_met(j):
    """The list of the partings that each run from singles meets, ascending."""
    first = all_singles(j.size)
    return [first] if j.top == first else [j.top, first]
