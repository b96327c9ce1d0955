"""The errors of the package. Each one keeps what it was raised with in an attribute."""


class MergeError(ValueError):
    """The base class of all errors of the package."""


class BadNumber(MergeError):
    """A size, another integer or a fraction is refused; word is the name of the argument."""

    def __init__(self, word):
        self.word = word


class BadParting(MergeError):
    """No parting; place is where its labels go wrong, or its place in a list, or -1."""

    def __init__(self, place):
        self.place = place


class BadLot(MergeError):
    """A name or a lot is refused at this place, or as a whole at -1."""

    def __init__(self, place):
        self.place = place


class OtherSize(MergeError):
    """A parting or a world has another number of names than needed; size is that number."""

    def __init__(self, size):
        self.size = size


class BadTable(MergeError):
    """A table, a row, a rate or a weight is refused at this place, or as a whole at -1."""

    def __init__(self, place):
        self.place = place


class BadText(MergeError):
    """A text is refused; line is the number of its first wrong line, 0 if it is no text."""

    def __init__(self, line):
        self.line = line


class NotFiner(MergeError):
    """A parting is not finer than another one as it should be; place is its place, or -1."""

    def __init__(self, place):
        self.place = place


class NotInside(MergeError):
    """Something does not stand where it should stand; place is its place, or -1."""

    def __init__(self, place):
        self.place = place


class TooMany(MergeError):
    """There are too many of something; count is how many."""

    def __init__(self, count):
        self.count = count


class NotJoins(MergeError):
    """Something is not made of joins; parting is where this is seen."""

    def __init__(self, parting):
        self.parting = parting


class NotFair(MergeError):
    """A world is not fair to some number of names; parting is where this is seen."""

    def __init__(self, parting):
        self.parting = parting


class NotOneLot(MergeError):
    """Something is not one lot at a time; parting is where this is seen."""

    def __init__(self, parting):
        self.parting = parting


class BadTriple(MergeError):
    """The rates among three names do not go together; triple holds the three names."""

    def __init__(self, triple):
        self.triple = triple


class NothingToUndo(MergeError):
    """There is no deed that could be taken back."""
