"""Join worlds told back from their stays and from the chances of being met."""

from mergerates.amounts import minus, over, reduced, summed
from mergerates.breaking import table_comes, weights_from
from mergerates.checks import as_fraction, check_size, check_table, check_within, is_chance, is_share
from mergerates.errors import BadTable
from mergerates.labels import all_partings, all_singles, is_finer
from mergerates.likeness import factor_at


def stays_taken(n, table):
    """The list of the stays, fractions and None."""
    check_size(n, "n")
    check_table(n, table)
    last = len(table) - 1
    for place, time in enumerate(table):
        if time is not None and (not is_share(time) or (place == last and as_fraction(time) == (0, 1))):
            raise BadTable(place)
    return [None if time is None else as_fraction(time) for time in table]


def rate_below(times):
    """The rate at which partings are left where a run spends these times, 0 if it may stay for ever."""
    if None in times:
        return (0, 1)
    top, bottom = summed(times)
    return reduced(bottom, top)


def breaking_of_stays(n, times):
    """The table of the breaking rates that a table of stays gives."""
    every = all_partings(n)
    return [rate_below([time for r, time in zip(every, times) if is_finer(r, t)]) for t in every]


def none_behind(n, numbers, ends):
    """True if the numbers are 0 at all partings strictly coarser than one of the ends."""
    behind = [t for t in all_partings(n) if any([t != r and is_finer(r, t) for r in ends])]
    number_at = {t: number for t, number in zip(all_partings(n), numbers)}
    return all([number_at[t] == (0, 1) for t in behind])


def weights_from_stays(n, table):
    """The table of the weights that a table of stays gives."""
    times = stays_taken(n, table)
    return weights_from(n, breaking_of_stays(n, times))


def stays_come(n, table):
    """True if the table of stays is that of a join world, whose weights may be fractions."""
    times = stays_taken(n, table)
    ends = [t for t, time in zip(all_partings(n), times) if time is None]
    return table_comes(n, breaking_of_stays(n, times)) and none_behind(n, times, ends)


def chances_taken(n, table):
    """The list of the chances of being met, as fractions."""
    check_within(n, 2, 6, "n")
    check_table(n, table)
    last = len(table) - 1
    for place, chance in enumerate(table):
        if not is_chance(chance) or (place == last and as_fraction(chance) != (1, 1)):
            raise BadTable(place)
    return [as_fraction(chance) for chance in table]


def breaking_of_chances(n, chances):
    """For each parting, finer ones first, the breaking rate that the chances of being met give."""
    chance_at = {t: chance for t, chance in zip(all_partings(n), chances)}
    rates = {}
    # Finer partings come later: going backwards, all that are finer have their rates before they are asked for.
    for t in reversed(all_partings(n)):
        finer = [r for r in rates if is_finer(r, t)]
        if any([rates[r] == (0, 1) for r in finer]):
            rates[t] = (0, 1)
        elif len(finer) == 0:
            rates[t] = (1, 1)
        else:
            waited = summed([over(chance_at[r], rates[r]) for r in finer])
            rates[t] = over(minus(1, chance_at[t]), waited)
    return rates


def in_order(n, rates):
    return tuple([rates[t] for t in all_partings(n)])


def meets_to_breaking(n, table):
    """The table of the breaking rates, 1 at singles, that a table of chances of being met gives."""
    return in_order(n, breaking_of_chances(n, chances_taken(n, table)))


def meets_come(n, table):
    """True if the table of chances is that of a join world with a stroke, whose weights may be fractions."""
    chances = chances_taken(n, table)
    rates = breaking_of_chances(n, chances)
    ends = [t for t in rates if rates[t] == (0, 1)]
    return table_comes(n, in_order(n, rates)) and none_behind(n, chances, ends)


def one_factor(j, other):
    """The fraction by which all weights of j become those of the other Joins, or None."""
    # The rates from singles are the weights.
    return factor_at(j, other, all_singles(j.size))
