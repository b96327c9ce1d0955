"""Whether the trace on a lot goes through the join of a list of partings, and links that show it."""

from mergerates.checks import check_names, listed_partings, some_lot_taken
from mergerates.errors import TooMany
from mergerates.labels import joined_all, traced

MOST_PARTINGS = 60


def both_taken(rest, lot):
    """The partings as tuples and the lot ascending."""
    taken = listed_partings(rest)
    for p in taken:
        check_names(p, len(taken[0]))
    names = some_lot_taken(lot, len(taken[0]))
    if len(taken) > MOST_PARTINGS:
        raise TooMany(len(taken))
    return taken, names


def trace_of_join(rest, lot):
    return traced(joined_all(rest), lot)


def join_of_traces(rest, lot):
    return joined_all([traced(p, lot) for p in rest])


def goes_through(rest, lot):
    """True if the trace of the join is the join of the traces."""
    taken, names = both_taken(rest, lot)
    return trace_of_join(taken, names) == join_of_traces(taken, names)


def broken_pairs(rest, lot):
    """The pairs (a, b) that the join holds together and the join of the traces does not, ascending."""
    through = trace_of_join(rest, lot)
    apart = join_of_traces(rest, lot)
    found = []
    for low in range(len(lot)):
        for high in range(low + 1, len(lot)):
            if through[low] == through[high] and apart[low] != apart[high]:
                found.append((lot[low], lot[high]))
    return found


def near(p, name, others):
    """True if p holds the name together with one of the others."""
    return any([p[name] == p[other] for other in others])


def steps_to(rest, end):
    """For each name the fewest places of a link from it to end, None if there is no link."""
    steps = [None for _ in rest[0]]
    steps[end] = 0
    border = [end]
    for many in range(1, len(steps)):
        border = [name for name, known in enumerate(steps)
                  if known is None and any([near(p, name, border) for p in rest])]
        for name in border:
            steps[name] = many
    return steps


def least_link(rest, a, b):
    """The least of the links of the fewest places from a to b."""
    steps = steps_to(rest, b)
    link = []
    # All names that the least link so far can lead to: the next place may need any one of them.
    here = [a]
    for left in reversed(range(steps[a])):
        closer = [name for name, many in enumerate(steps) if many == left]
        arrivals = [[name for name in closer if near(p, name, here)] for p in rest]
        place = min([k for k, names in enumerate(arrivals) if len(names) > 0])
        link.append(place)
        here = arrivals[place]
    return tuple(link)


def broken_link(rest, lot):
    """None if the trace goes through, else (a, b, link) with a shortest link of a broken pair."""
    taken, names = both_taken(rest, lot)
    pairs = broken_pairs(taken, names)
    if len(pairs) == 0:
        return None
    lengths = [steps_to(taken, b)[a] for a, b in pairs]
    a, b = pairs[lengths.index(min(lengths))]
    return (a, b, least_link(taken, a, b))
