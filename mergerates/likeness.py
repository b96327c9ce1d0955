"""Likeness of two worlds: whether all chains from singles have the same chances in both."""

from mergerates.amounts import reduced
from mergerates.checks import check_names, check_sizes, parting_taken
from mergerates.worlds import reached


def factor_here(world, other, p):
    """The factor at p, None if there is none."""
    old = {r: rate for r, rate in world.from_here(p)}
    new = {r: rate for r, rate in other.from_here(p)}
    if list(old) != list(new):
        return None
    if len(old) == 0:
        return (1, 1)
    factors = [reduced(new[r], old[r]) for r in old]
    return factors[0] if factors.count(factors[0]) == len(factors) else None


def factor_at(world, other, p):
    """The fraction by which all rates of the world from p become those of the other one, or None."""
    here = parting_taken(p)
    check_sizes(world, other)
    check_names(here, world.size)
    return factor_here(world, other, here)


def unlike_chain(world, other):
    """The least parting reached in the world from singles at which there is no factor, or None."""
    check_sizes(world, other)
    for p in reached(world):
        if factor_here(world, other, p) is None:
            return p
    return None


def same_chains(world, other):
    """True if every chain from singles has the same chance in both worlds."""
    return unlike_chain(world, other) is None
