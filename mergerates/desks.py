"""A desk with a world on it, the deeds that made it, and how they are taken back."""

from mergerates.again import may_leave, rest_joins
from mergerates.checks import check_count, is_integer, is_list, is_name, parting_on, partings_on
from mergerates.errors import BadLot, BadNumber, BadTable, NotFiner, NothingToUndo, NotInside, TooMany
from mergerates.firsts import check_pair
from mergerates.joins import Joins, joins_of
from mergerates.labels import all_partings, all_singles, is_finer, lot_label
from mergerates.seen import below_world, renamed_world, seen_world
from mergerates.worlds import World


def rate_added(world, p, r, rate):
    """The world in which the rate from p to r is greater by this rate."""
    check_count(rate, "rate")
    fine, coarse = partings_on(world.size, p, r)
    if fine == coarse or not is_finer(fine, coarse):
        raise NotFiner(-1)
    return World(world.size, [*world.moves, (fine, coarse, rate)])


def stroke_added(world, x, weight):
    """The world to which the rates of a join world of one stroke are added."""
    check_count(weight, "weight")
    stroke = parting_on(world.size, x)
    if stroke == all_singles(world.size):
        raise NotFiner(-1)
    return world + Joins(world.size, [weight if y == stroke else 0 for y in all_partings(world.size)])


def row_dropped(world, p):
    """The world without the moves from p."""
    here = parting_on(world.size, p)
    return World(world.size, [move for move in world.moves if move[0] != here])


def multiplied(world, k):
    """The world with all rates multiplied by k."""
    return world * k


def kept_below(world, t):
    """The world with the moves to partings finer than t alone."""
    return below_world(world, t)


def looked_from(world, p):
    """The world on the blocks of p."""
    return seen_world(world, p)


def renamed_all(world, names):
    """The world in which name i is called names[i]."""
    return renamed_world(world, names)


def glued(world, a, b):
    """The world seen from the parting in which two names are together and all others alone."""
    check_pair(world.size, a, b)
    return seen_world(world, lot_label((a, b), world.size))


def name_left(world, z):
    """The world of the other names of a join world from which z may be left out."""
    if not is_name(z, world.size):
        raise BadLot(0)
    if world.size == 1:
        raise BadLot(-1)
    j = joins_of(world)
    if not may_leave(j, z):
        raise NotInside(-1)
    rest = rest_joins(j, [name for name in range(j.size) if name != z])
    return World(rest.size, rest.moves)


# For each deed what makes the new world of the old one and of the arguments, and how many arguments there are.
DEEDS = {
    "add_rate": rate_added, "add_stroke": stroke_added, "drop": row_dropped, "take_times": multiplied,
    "take_below": kept_below, "look_from": looked_from, "rename": renamed_all, "glue": glued, "leave": name_left,
}
ARGUMENTS = {
    "add_rate": 3, "add_stroke": 2, "drop": 1, "take_times": 1, "take_below": 1, "look_from": 1, "rename": 1,
    "glue": 2, "leave": 1,
}


def check_deed(deed, place):
    """Refuses what is no name of a deed with a list of as many arguments as it takes."""
    if not is_list(deed) or len(deed) != 2:
        raise BadTable(place)
    name, rest = deed
    if not isinstance(name, str) or name not in DEEDS or not is_list(rest) or len(rest) != ARGUMENTS[name]:
        raise BadTable(place)


class Desk:
    """A world, and the deeds by which it came of the first one."""

    def __init__(self, world, *, most=200):
        if not is_integer(most) or most < 1:
            raise BadNumber("most")
        self._most = most
        # Never changed but replaced, so that what a Trial has kept stays as it was.
        self._worlds = (World(world.size, world.moves),)
        self._names = ()
        self._note = ""

    @property
    def depth(self):
        """The number of deeds not taken back."""
        return len(self._names)

    @property
    def note(self):
        """What has been noted down."""
        return self._note

    @note.setter
    def note(self, value):
        if not isinstance(value, str):
            raise BadNumber("text")
        self._note = value

    def note_down(self, text):
        """Replaces the note."""
        self.note = text

    def now(self):
        """The world as the deeds have made it."""
        return self._worlds[-1]

    def deeds(self):
        """The names of the deeds not taken back, the first one first."""
        return self._names

    def undo(self):
        """Takes the last deed back and returns its name."""
        if self.depth == 0:
            raise NothingToUndo()
        name = self._names[-1]
        self._worlds = self._worlds[:-1]
        self._names = self._names[:-1]
        return name

    def _check_room(self, more):
        """Refuses a deed that comes after so many more."""
        if self.depth + more >= self._most:
            raise TooMany(self._most)

    def _made(self, name, world):
        """Keeps the world that a deed has made."""
        self._check_room(0)
        self._worlds = (*self._worlds, world)
        self._names = (*self._names, name)

    def add_rate(self, p, r, rate):
        """The rate from p to r becomes greater by this rate."""
        self._made("add_rate", rate_added(self.now(), p, r, rate))

    def add_stroke(self, x, weight):
        """The rates of the join world of this one stroke are added."""
        self._made("add_stroke", stroke_added(self.now(), x, weight))

    def drop(self, p):
        """All rates from p become 0."""
        self._made("drop", row_dropped(self.now(), p))

    def take_times(self, k):
        """All rates are multiplied by k."""
        self._made("take_times", multiplied(self.now(), k))

    def take_below(self, t):
        """Only the rates to partings finer than t stay."""
        self._made("take_below", kept_below(self.now(), t))

    def look_from(self, p):
        """The blocks of p become the names."""
        self._made("look_from", looked_from(self.now(), p))

    def rename(self, names):
        """Name i becomes the name names[i]."""
        self._made("rename", renamed_all(self.now(), names))

    def glue(self, a, b):
        """Two names become one."""
        self._made("glue", glued(self.now(), a, b))

    def leave(self, z):
        """One name is left out of a join world."""
        self._made("leave", name_left(self.now(), z))

    def what_if(self, deeds):
        """The world that would be there after more deeds; the desk stays as it is."""
        if not is_list(deeds):
            raise BadTable(-1)
        world = self.now()
        for place, deed in enumerate(deeds):
            check_deed(deed, place)
            name, rest = deed
            action = DEEDS[name]
            world = action(world, *rest)
            self._check_room(place)
        return world
