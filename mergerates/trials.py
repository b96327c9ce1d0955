"""Trials at a desk that leave nothing behind, and short reports of worlds."""

from mergerates.both import all_at_once
from mergerates.checks import check_sizes
from mergerates.colours import alike_to_colours
from mergerates.fair import fair_to
from mergerates.likejoins import is_one_lot
from mergerates.likeness import same_chains
from mergerates.numbers import number_memoryless
from mergerates.steady import steady_to
from mergerates.unseen import alike_to_names


class Trial:
    """Gives a desk back, at the end of a block, as it was at the beginning."""

    def __init__(self, desk):
        self._desk = desk
        self._worlds = ()
        self._names = ()
        self._note = ""

    def __enter__(self):
        desk = self._desk
        self._worlds = desk._worlds
        self._names = desk._names
        self._note = desk._note
        return desk

    def __exit__(self, kind, value, trace):
        desk = self._desk
        desk._worlds = self._worlds
        desk._names = self._names
        desk._note = self._note


def report(world):
    """What a world is like, in seven words."""
    return (world.size, world.many, steady_to(world), fair_to(world), is_one_lot(world), number_memoryless(world),
            all_at_once(world))


def tried(desk, deeds):
    """The report of the world that would be on the desk after more deeds."""
    return report(desk.what_if(deeds))


def compared(world, other):
    """Whether chains, colours, names and all rates tell two worlds apart."""
    check_sizes(world, other)
    n = world.size
    first = world.first_rates()
    second = other.first_rates()
    colours = [q for q in range(1, n + 1) if alike_to_colours(n, first, second, q)]
    names = [m for m in range(1, n + 1) if alike_to_names(n, first, second, m)]
    return (same_chains(world, other), max(colours), max(names), world == other)
