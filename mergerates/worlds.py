"""Worlds: rates at which partings go over to coarser ones."""

from mergerates.checks import (
    check_count, check_names, check_size, check_sizes, is_count, is_list, listed_parting, parting_on, partings_on,
)
from mergerates.errors import BadNumber, BadTable, BadText, MergeError, NotFiner
from mergerates.labels import all_partings, all_singles, block_count, is_finer, raised

DIGITS = "0123456789"
MOST_DIGITS = 40


def check_move(move, size, place):
    """Refuses what is no move at this place of a list; without a size p tells the number of names."""
    if not is_list(move) or len(move) != 3 or not is_count(move[2]):
        raise BadTable(place)
    p = listed_parting(move[0], place)
    r = listed_parting(move[1], place)
    names = len(p) if size is None else size
    check_names(p, names)
    check_names(r, names)
    if p == r or not is_finer(p, r):
        raise NotFiner(place)


def gathered(moves, times):
    """The moves in order, those of the same two partings added, without rates of 0."""
    rates = {}
    for p, r, rate in moves:
        pair = (tuple(p), tuple(r))
        rates[pair] = rates.get(pair, 0) + rate * times
    return tuple([(p, r, rates[p, r]) for p, r in sorted(rates) if rates[p, r] > 0])


def onward(moves):
    """For each parting with moves the list of (r, rate) of the moves from it."""
    found = {}
    for p, r, rate in moves:
        found.setdefault(p, []).append((r, rate))
    return found


def told_by_labels(p):
    return "".join([str(label) for label in p])


def all_digits(text):
    # Not isdigit: it takes digits of other scripts, too.
    return all([sign in DIGITS for sign in text])


def size_told(row):
    """The number of names that the first line of a text tells."""
    if not row.startswith("names ") or len(row) != 7 or row[6] not in "123456":
        raise BadText(1) from BadNumber("size")
    return int(row[6])


def is_rate(text):
    if not 1 <= len(text) <= MOST_DIGITS or not all_digits(text):
        return False
    return text == "0" or text[0] != "0"


def move_told(row, size, place):
    """The move that a further line of a text tells."""
    words = row.split(" ")
    if len(words) != 5 or words[1] != ">" or words[3] != ":" or not is_rate(words[4]):
        raise BadTable(place)
    if not all_digits(words[0]) or not all_digits(words[2]):
        raise BadTable(place)
    move = ([int(label) for label in words[0]], [int(label) for label in words[2]], int(words[4]))
    check_move(move, size, place)
    return move


class World:
    """A world on size names, told by its moves."""

    KIND = "world"

    def __init__(self, size, moves=(), *, times=1):
        check_size(size, "size")
        check_count(times, "times")
        if not is_list(moves):
            raise BadTable(-1)
        for place, move in enumerate(moves):
            check_move(move, size, place)
        self.size = size
        self.moves = gathered(moves, times)
        self._rates = {(p, r): rate for p, r, rate in self.moves}
        self._onward = onward(self.moves)

    @property
    def many(self):
        """The number of moves."""
        return len(self.moves)

    def __call__(self, p, r):
        """The rate from p to r."""
        fine, coarse = partings_on(self.size, p, r)
        return self._rates.get((fine, coarse), 0)

    def __iter__(self):
        return iter(self.moves)

    def __add__(self, other):
        if not isinstance(other, World):
            return NotImplemented
        check_sizes(self, other)
        return World(self.size, self.moves + other.moves)

    def __mul__(self, other):
        check_count(other, "k")
        return World(self.size, self.moves, times=other)

    def __eq__(self, other):
        return isinstance(other, World) and self.size == other.size and self.moves == other.moves

    def from_here(self, p):
        """The list of (r, rate) of the moves from p, ascending."""
        here = parting_on(self.size, p)
        return list(self._onward.get(here, []))

    def total_from(self, p):
        """The sum of the rates from p."""
        return sum([rate for _, rate in self.from_here(p)])

    def is_end(self, p):
        """True if no move leads on from p."""
        return len(self.from_here(p)) == 0

    def first_rates(self):
        """The table of the rates from singles."""
        return self.row_at(all_singles(self.size))

    def row_at(self, p):
        """The table on the blocks of p with the rates from p."""
        here = parting_on(self.size, p)
        seen = all_partings(block_count(here))
        return tuple([self._rates.get((here, raised(here, x)), 0) for x in seen])

    def exit_from(self, p, t):
        """The sum of the rates from p to partings not finer than t."""
        fine, coarse = partings_on(self.size, p, t)
        if not is_finer(fine, coarse):
            raise NotFiner(-1)
        return sum([rate for r, rate in self._onward.get(fine, []) if not is_finer(r, coarse)])

    def lines(self):
        """The text of the world."""
        return "\n".join([f"names {self.size}", *[World.line_of(move) for move in self.moves]])

    @staticmethod
    def line_of(move):
        """The line of one move; its rate may be 0."""
        check_move(move, None, 0)
        p, r, rate = move
        return f"{told_by_labels(p)} > {told_by_labels(r)} : {rate}"

    @classmethod
    def read(cls, text):
        """The World that a text tells."""
        if not isinstance(text, str):
            raise BadText(0)
        first, *rows = text.split("\n")
        size = size_told(first)
        moves = []
        for place, row in enumerate(rows):
            try:
                moves.append(move_told(row, size, place))
            except MergeError as e:
                raise BadText(place + 2) from e
        return World(size, moves)


def reached(world, start=None):
    """The list of the partings reached from start, or from singles, ascending."""
    first = all_singles(world.size) if start is None else parting_on(world.size, start)
    found = {first: True}
    # Coarser partings come earlier: going backwards, all moves to a parting stand before those from it.
    for p, r, _ in world.moves[::-1]:
        if p in found:
            found[r] = True
    return sorted(found)
