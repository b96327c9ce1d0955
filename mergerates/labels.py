"""Arithmetic of labels. Nothing is checked here: partings are right, lots are ascending."""

from itertools import combinations


def relabelled(marks):
    """The labels of the parting in which names with equal marks are together."""
    labels = {}
    for mark in marks:
        if mark not in labels:
            labels[mark] = len(labels)
    return tuple([labels[mark] for mark in marks])


def all_singles(n):
    return tuple(range(n))


def all_partings(n):
    """The partings of n names, ascending."""
    rest = [(0,)]
    for _ in range(1, n):
        rest = [(*p, label) for p in rest for label in range(block_count(p) + 1)]
    return rest


def places(n):
    """For each parting of n names its place in a table."""
    return {p: place for place, p in enumerate(all_partings(n))}


def subsets(n, size):
    """The lots of exactly size names below n, ascending."""
    return list(combinations(range(n), size))


def lot_label(lot, n):
    """The parting with the names of the lot in one block and all others alone."""
    return relabelled([-1 if name in lot else name for name in range(n)])


def block_count(p):
    return max(p) + 1


def block_names(p):
    """The names of each block, in the order of the labels."""
    blocks = [[] for _ in range(block_count(p))]
    for name, label in enumerate(p):
        blocks[label].append(name)
    return blocks


def is_finer(p, r):
    # It is enough to compare each name with the first name of its block.
    return all([r[name] == r[p.index(label)] for name, label in enumerate(p)])


def all_open(r, s):
    """The partings at which no one of the two questions is closed, ascending."""
    return [t for t in all_partings(len(r)) if not is_finer(r, t) and not is_finer(s, t)]


def joined(p, r):
    marks = list(p)
    for name, label in enumerate(r):
        old = marks[name]
        new = marks[r.index(label)]
        marks = [new if mark == old else mark for mark in marks]
    return relabelled(marks)


def joined_all(rest):
    """The join of a list of at least one parting."""
    found = rest[0]
    for p in rest[1:]:
        found = joined(found, p)
    return found


def traced(p, lot):
    return relabelled([p[name] for name in lot])


def rearranged(p, names):
    """The parting in which names[i] and names[j] are together if i and j are in p."""
    return relabelled([p[names.index(name)] for name in range(len(p))])


def viewed(p, r):
    """r seen from p."""
    # The labels of r are first met at first names of blocks of p, so they need no new order.
    return tuple([r[p.index(block)] for block in range(block_count(p))])


def raised(p, x):
    """x lifted to p."""
    # Blocks of p are first met in the order of their labels, so these labels are right already.
    return tuple([x[label] for label in p])


def coarser(p):
    """All partings that are coarser than p, ascending, p included."""
    return [raised(p, x) for x in all_partings(block_count(p))]


def mobius(x):
    """mu from singles to x."""
    product = 1
    for block in block_names(x):
        for factor in range(1, len(block)):
            product = product * -factor
    return product
