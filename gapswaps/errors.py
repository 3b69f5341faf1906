"""The errors of the package, each told by the argument that is at fault."""


class GapError(ValueError):
    """What every error of this package is."""


class InvalidNumber(GapError):
    """What has to be a whole number, within its bounds, is none."""

    def __init__(self, value=None):
        self.value = value


class InvalidOrder(GapError):
    """What has to be an order is none."""

    def __init__(self, value=None):
        self.value = value


class InvalidRow(GapError):
    """What has to be a row, or a log, is none."""

    def __init__(self, value=None):
        self.value = value


class InvalidLets(GapError):
    """What has to be a set of counts, of the kind that is asked for, is none."""

    def __init__(self, value=None):
        self.value = value


class InvalidList(GapError):
    """What has to be a list of a told kind is none."""

    def __init__(self, value=None):
        self.value = value


class InvalidPlace(GapError):
    """There is no such place, or no deed at it."""

    def __init__(self, value=None):
        self.value = value


class InvalidPairs(GapError):
    """What has to be a pair, or a list of pairs, is none."""

    def __init__(self, value=None):
        self.value = value


class InvalidRule(GapError):
    """What has to be a wide rule, of the kind that is asked for, is none."""

    def __init__(self, value=None):
        self.value = value


class InvalidTree(GapError):
    """What has to be a tree is none."""

    def __init__(self, value=None):
        self.value = value


class InvalidLines(GapError):
    """What has to be a text, or a text that can be read, is none."""

    def __init__(self, value=None):
        self.value = value


class InvalidDeed(GapError):
    """What has to be a told deed is none."""

    def __init__(self, value=None):
        self.value = value


class InvalidFlag(GapError):
    """What has to be True or False is neither."""

    def __init__(self, value=None):
        self.value = value


class InvalidHall(GapError):
    """What has to be a hall is none."""

    def __init__(self, value=None):
        self.value = value


class Unlike(GapError):
    """Two things do not fit one another."""

    def __init__(self, value=None):
        self.value = value


class TooMany(GapError):
    """There are more of a thing than are taken."""

    def __init__(self, value=None):
        self.value = value


class NothingToUndo(GapError):
    """No deed stands that could be undone."""


class NothingToRedo(GapError):
    """No deed was undone that could be done again."""
