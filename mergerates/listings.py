"""Listings of worlds and of chances for the eye."""

from mergerates.amounts import shown
from mergerates.labels import all_partings
from mergerates.worlds import told_by_labels


def listing(world):
    """One line for each move, the rates one under the other, and a line of sums."""
    rates = [str(rate) for _, _, rate in world.moves]
    width = max([len(rate) for rate in rates], default=0)
    lines = []
    for (p, r, _), rate in zip(world.moves, rates):
        lines.append(f"{told_by_labels(p)} > {told_by_labels(r)}  {rate.rjust(width)}")
    return "\n".join([*lines, f"{world.size} names, {world.many} moves"])


def chances_listing(chances):
    """One line for each parting with a chance above 0."""
    told = [(t, chance) for t, chance in zip(all_partings(chances.size), chances.table) if chance[0] > 0]
    return "\n".join([f"{told_by_labels(t)}  {shown(chance)}" for t, chance in told])
