"""The words of the document in slow and plain form, written without the program."""

from itertools import combinations, product


def partings_of(n):
    """All label tuples of point [2], ascending."""
    return [p for p in product(range(n), repeat=n) if is_parting(p)]


def is_parting(p):
    return all(label <= len(set(p[:place])) for place, label in enumerate(p))


def together(p):
    """All pairs a < b of names in one block."""
    return {(a, b) for a, b in combinations(range(len(p)), 2) if p[a] == p[b]}


def is_finer(p, r):
    return together(p) <= together(r)


def join_of(rest):
    """The only one of the partings coarser than all that is finer than each of these."""
    coarser = [t for t in partings_of(len(rest[0])) if all(is_finer(p, t) for p in rest)]
    found, = [t for t in coarser if all(is_finer(t, s) for s in coarser)]
    return found


def parting_with(n, pairs):
    """The parting in which exactly these pairs are together."""
    found, = [p for p in partings_of(n) if together(p) == pairs]
    return found


def trace_on(p, lot):
    names = sorted(lot)
    pairs = {(i, k) for i, k in combinations(range(len(names)), 2) if p[names[i]] == p[names[k]]}
    return parting_with(len(names), pairs)


def all_lots(n):
    return [lot for size in range(n + 1) for lot in combinations(range(n), size)]


def comparable(n):
    """All pairs p <= r."""
    every = partings_of(n)
    return [(p, r) for p in every for r in every if is_finer(p, r)]


def some_moves(n, step=3, base=5):
    """Moves of a world with many different rates, some of them 0."""
    strict = [(p, r) for p, r in comparable(n) if p != r]
    return [(p, r, (step * k + k * k) % base) for k, (p, r) in enumerate(strict)]


def rate_of(moves, p, r):
    return sum(rate for x, y, rate in moves if (x, y) == (p, r))
