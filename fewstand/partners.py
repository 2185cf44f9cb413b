"""Rows of lots with partners, each missing its own and meeting those of all later ones."""

from fewstand.errors import NoPairs
from fewstand.lots import is_lot, misses

MOST_PAIRS = 12


def is_pair(many, size, strangers, thing):
    """Whether thing is a tuple of a lot and of at most so many strangers."""
    if not isinstance(thing, tuple) or len(thing) != 2:
        return False
    one, other = thing
    if not is_lot(many, size, one) or not isinstance(other, tuple) or len(other) > strangers:
        return False
    return is_lot(many, len(other), other)


def is_row(many, size, strangers, thing):
    """Whether thing is a row of partners."""
    if not isinstance(thing, list):
        return False
    if not all([is_pair(many, size, strangers, pair) for pair in thing]):
        return False
    for at, (one, other) in enumerate(thing):
        if not misses(one, other) or not all([not misses(ahead, other) for ahead, partner in thing[:at]]):
            return False
    return True


def look_at_pairs(many, size, strangers, thing):
    """Refuse, with NoPairs, what is no list of at most 12 pairs."""
    if not isinstance(thing, list) or len(thing) > MOST_PAIRS:
        raise NoPairs(None)
    for at, pair in enumerate(thing):
        if not is_pair(many, size, strangers, pair):
            raise NoPairs(at)


def longest_row(many, size, strangers, pairs):
    """The numbers, in the row's order, of a longest row of partners that can be made of the pairs."""
    look_at_pairs(many, size, strangers, pairs)
    meeting = [who_meet(pairs, other) for one, other in pairs]
    told = []
    # Whether a row can go on hangs on which pairs it has, not on their order: one row of each set will do.
    rows = {0: []}
    while len(rows) > 0:
        told = list(rows.values())[0]
        rows = lengthened(rows, meeting)
    return told


def who_meet(pairs, other):
    """The set of the pairs whose one meets the other, as a number with a bit for each."""
    return sum([1 << at for at, (one, partner) in enumerate(pairs) if not misses(one, other)])


def lengthened(rows, meeting):
    """The rows that are longer by one pair, by their sets."""
    longer = {}
    for held, row in rows.items():
        for at, meet in enumerate(meeting):
            bit = 1 << at
            # All held ones meet its other, and it misses its own: so it is not held, either.
            if held & meet == held and bit & meet == 0:
                longer[held | bit] = row + [at]
    return longer
