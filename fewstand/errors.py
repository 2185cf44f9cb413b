"""The refusals."""


class LotError(ValueError):
    """Any refusal, made of a text."""


class NoNumber(LotError):
    """What is no whole number, or not one that is asked for."""


class NoLot(LotError):
    """What is no lot of the ground and the size, or not there."""


class NoSize(LotError):
    """What is no ground, size, or number of strangers or of lots."""


class NoNames(LotError):
    """What doesn't call each thing of the ground once."""


class TooMany(LotError):
    """More than can be gone through, or kept."""


class NoWeb(LotError):
    """What is no web."""


class NoPlan(LotError):
    """What is no plan of a tree."""


class Twice(LotError):
    """A lot that is there already."""


class NoMove(LotError):
    """Nothing to undo."""


class NoText(LotError):
    """What writes no family."""


class NoRow(LotError):
    """What is no row of words for the desk."""


class NoName(LotError):
    """A name by which no family stands."""


class Unlike(LotError):
    """Families of unlike grounds or sizes."""


class NoFamily(LotError):
    """What is no family; at is the number of the first wrong thing, or None."""

    def __init__(self, at):
        LotError.__init__(self, f"no family, by its thing {at}")
        self.at = at


class NoPairs(LotError):
    """What is no list of pairs; at is the number of the first wrong thing, or None."""

    def __init__(self, at):
        LotError.__init__(self, f"no list of pairs, by its thing {at}")
        self.at = at


class NoMachine(LotError):
    """What is no machine; part is the number of its first wrong part, or None."""

    def __init__(self, part):
        LotError.__init__(self, f"no machine, by its part {part}")
        self.part = part
