"""Lots, families of them, and strangers that they miss."""

from fewstand.errors import NoFamily, NoNames
from fewstand.numbers import is_whole

MOST_LOTS = 200


def is_lot(many, size, thing):
    """Whether thing is a lot of that size on a ground of many things."""
    if not isinstance(thing, tuple) or len(thing) != size:
        return False
    least = 0
    for one in thing:
        if not is_whole(one) or one < least or one >= many:
            return False
        least = one + 1
    return True


def is_lot_with_worth(many, size, thing):
    """Whether thing is a tuple (lot, worth), as families have them."""
    if not isinstance(thing, tuple) or len(thing) != 2:
        return False
    return is_lot(many, size, thing[0]) and is_whole(thing[1])


def look_at_family(many, size, thing):
    """Refuse, with NoFamily, what is no family of that size on a ground of many things."""
    if not isinstance(thing, list) or len(thing) > MOST_LOTS:
        raise NoFamily(None)
    seen = {}
    for at, one in enumerate(thing):
        if not is_lot_with_worth(many, size, one) or one[0] in seen:
            raise NoFamily(at)
        seen[one[0]] = True


def misses(one, other):
    """Whether two tuples of things share none."""
    for thing in one:
        if thing in other:
            return False
    return True


def best(family, strangers):
    """The greatest worth of the lots that miss the strangers, None where none does."""
    return max([worth for lot, worth in family if misses(lot, strangers)], default=None)


def both(one, other):
    """Both families together, sorted by lots; of lots in both the greater worth."""
    worths = {lot: worth for lot, worth in one}
    for lot, worth in other:
        worths[lot] = max(worth, worths.get(lot, worth))
    return sorted(list(worths.items()))


def renamed(many, family, names):
    """The family with each thing t called names[t], sorted by lots."""
    if not are_names(many, names):
        raise NoNames("a list that has each thing of the ground once is asked for")
    return sorted([(tuple(sorted([names[thing] for thing in lot])), worth) for lot, worth in family])


def are_names(many, thing):
    """Whether thing is a list that has each thing of the ground once."""
    if not isinstance(thing, list) or not all([is_whole(name) for name in thing]):
        return False
    return sorted(thing) == list(range(many))
