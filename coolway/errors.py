"""The errors of the package."""


class CoolError(ValueError):
    """The base of all errors of the package."""


class BadMap(CoolError):
    """Not a Map (the part is None), or a part of a map that is not as it must be."""

    def __init__(self, part):
        self.part = part


class BadState(CoolError):
    """Not a state of the map."""


class BadMove(CoolError):
    """Not a move that is possible in the state."""


class BadLateness(CoolError):
    """Not a lateness."""


class BadPlan(CoolError):
    """Not a plan of the map."""


class TooLarge(CoolError):
    """The map has too many plans."""


class BadDriver(CoolError):
    """Not one of the words for drivers."""


class BadMore(CoolError):
    """Not a number of hours by which the road can be late."""


class Spoiled(CoolError):
    """The goods are spoiled already."""


class NothingDone(CoolError):
    """There is nothing that can be taken back."""


class BadLog(CoolError):
    """Not a log (the index is None), or an item of it that is not as it must be."""

    def __init__(self, index):
        self.index = index


class BadPurse(CoolError):
    """Not a purse."""


class BadNews(CoolError):
    """Not news for the lateness."""


class BadFee(CoolError):
    """Not a fee."""


class BadText(CoolError):
    """A text whose line at this row is not as it must be."""

    def __init__(self, row):
        self.row = row
