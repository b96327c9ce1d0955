"""What is asked of arguments: each function refuses by an error or returns what it took."""

from math import gcd

from mergerates.errors import BadLot, BadNumber, BadParting, BadTable, OtherSize

MOST_NAMES = 6
# How many partings there are of 0, 1, .. 6 names.
PARTING_COUNTS = (1, 1, 2, 5, 15, 52, 203)


def is_integer(value):
    """True and False are no integers here."""
    return isinstance(value, int) and not isinstance(value, bool)


def is_count(value):
    return is_integer(value) and value >= 0


def is_list(value):
    """A tuple does as well as a list."""
    return isinstance(value, (list, tuple))


def is_fraction(value):
    if not isinstance(value, tuple) or len(value) != 2:
        return False
    top, bottom = value
    return is_integer(top) and is_integer(bottom) and bottom >= 1 and gcd(top, bottom) == 1


def check_within(value, least, most, word):
    if not is_integer(value) or not least <= value <= most:
        raise BadNumber(word)


def check_size(value, word):
    check_within(value, 1, MOST_NAMES, word)


def check_count(value, word):
    if not is_count(value):
        raise BadNumber(word)


def amount_taken(value, word):
    """The fraction that an integer or a fraction is."""
    if is_integer(value):
        return (value, 1)
    if not is_fraction(value):
        raise BadNumber(word)
    return value


def is_amount(value):
    return is_integer(value) or is_fraction(value)


def as_fraction(amount):
    """The fraction that an integer or a fraction is, which has been looked at before."""
    return (amount, 1) if is_integer(amount) else amount


def is_share(value):
    """An integer or a fraction that is not below 0."""
    return is_amount(value) and as_fraction(value)[0] >= 0


def is_chance(value):
    """An integer or a fraction from 0 to 1."""
    return is_share(value) and as_fraction(value)[0] <= as_fraction(value)[1]


def is_miss(value):
    """An integer or a fraction above 0 and at most 1."""
    return is_chance(value) and as_fraction(value)[0] > 0


def moment_taken(u):
    """The fraction that tells a time by the chance u that a stroke of weight 1 has not come yet."""
    if not is_miss(u):
        raise BadNumber("u")
    return as_fraction(u)


def amounts_taken(rest):
    """The list of the fractions that the items of a list are."""
    if not is_list(rest):
        raise BadTable(-1)
    for place, item in enumerate(rest):
        if not is_amount(item):
            raise BadTable(place)
    return [as_fraction(item) for item in rest]


def check_table(n, table):
    """Refuses what has not one item for each parting of n names."""
    if not is_list(table) or len(table) != PARTING_COUNTS[n]:
        raise BadTable(-1)


def table_taken(n, table):
    """The list of the fractions of a table on n names."""
    check_table(n, table)
    return amounts_taken(table)


def weights_taken(n, weights):
    """The tuple of the weights on n names."""
    check_table(n, weights)
    last = len(weights) - 1
    for place, weight in enumerate(weights):
        if not is_count(weight) or (place == last and weight != 0):
            raise BadTable(place)
    return tuple(weights)


def wrong_label(p):
    """The first place at which the labels go wrong, -1 if there are none, None if they are right."""
    if not is_list(p) or len(p) == 0:
        return -1
    free = 0
    for place, label in enumerate(p):
        if place == MOST_NAMES or not is_integer(label) or not 0 <= label <= free:
            return place
        if label == free:
            free = free + 1
    return None


def parting_taken(p):
    """The tuple of the labels of a parting that is an argument by itself."""
    place = wrong_label(p)
    if place is not None:
        raise BadParting(place)
    return tuple(p)


def listed_parting(p, place):
    """The tuple of the labels of a parting that stands at this place of a list."""
    if wrong_label(p) is not None:
        raise BadParting(place)
    return tuple(p)


def listed_partings(rest):
    """The partings of a list of at least one, as tuples."""
    if not is_list(rest) or len(rest) == 0:
        raise BadParting(-1)
    return [listed_parting(p, place) for place, p in enumerate(rest)]


def check_names(p, size):
    if len(p) != size:
        raise OtherSize(len(p))


def check_sizes(first, second):
    """Refuses a second world, or second chances, of another number of names."""
    if second.size != first.size:
        raise OtherSize(second.size)


def parting_on(size, p):
    """The parting, an argument by itself, as a tuple, of size names."""
    taken = parting_taken(p)
    check_names(taken, size)
    return taken


def partings_on(size, *rest):
    """The partings, arguments by themselves, as tuples, all of them of size names."""
    taken = [parting_taken(p) for p in rest]
    for p in taken:
        check_names(p, size)
    return taken


def alike_partings(p, *rest):
    """The partings, arguments by themselves, as tuples, all of as many names as the first."""
    first = parting_taken(p)
    taken = [parting_taken(r) for r in rest]
    for r in taken:
        check_names(r, len(first))
    return [first, *taken]


def is_name(value, n):
    return is_integer(value) and 0 <= value < n


def wrong_name(names, n):
    """The first place of a list with no name below n or one met before, -1 for no list, None if all are right."""
    if not is_list(names):
        return -1
    for place, name in enumerate(names):
        if not is_name(name, n) or name in names[:place]:
            return place
    return None


def names_taken(names, n):
    """A list of different names below n, in its own order."""
    place = wrong_name(names, n)
    if place is not None:
        raise BadLot(place)
    return tuple(names)


def all_names_taken(names, n):
    """A list of all names below n, in its own order."""
    taken = names_taken(names, n)
    if len(taken) < n:
        raise BadLot(-1)
    return taken


def lot_taken(lot, n):
    """The ascending tuple of the names of a lot."""
    return tuple(sorted(names_taken(lot, n)))


def some_lot_taken(lot, n):
    """A lot where the empty one is refused."""
    taken = lot_taken(lot, n)
    if len(taken) == 0:
        raise BadLot(-1)
    return taken
