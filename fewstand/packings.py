"""Packings: lots of a family that miss one another, what they are worth, and best ones."""

from fewstand.carrying import best_made, carried, put_joined
from fewstand.errors import NoSize
from fewstand.few import look_at_sizes
from fewstand.lots import look_at_family, misses
from fewstand.numbers import is_whole, is_within

MOST_PACKED = 8
MOST_THINGS_PACKED = 8


def packing_worth(family, thing):
    """What thing is worth as a packing of the family, None where it is none."""
    if not isinstance(thing, list):
        return None
    worths = {lot: worth for lot, worth in family}
    total = 0
    for at, lot in enumerate(thing):
        # Kinds are looked at first: True is == 1, but it is no thing of a lot.
        if not is_tuple_of_wholes(lot) or lot not in worths:
            return None
        if at > 0 and lot <= thing[at - 1]:
            return None
        if not all([misses(lot, ahead) for ahead in thing[:at]]):
            return None
        total += worths[lot]
    return total


def is_tuple_of_wholes(thing):
    """Whether thing is a tuple of whole numbers."""
    return isinstance(thing, tuple) and all([is_whole(one) for one in thing])


def best_packing(many, size, family, count):
    """A tuple of the greatest worth of a packing of so many lots and of such a packing, None where there is none."""
    look_at_count(many, size, count)
    look_at_family(many, size, family)
    if count == 0:
        return (0, [])
    # The lot without things misses itself, but is there only once.
    if count > len(family):
        return None
    found = best_made(packed(many, size, family, count))
    return None if found is None else (found[0], sorted(found[1]))


def look_at_count(many, size, count):
    """Refuse, with NoSize, what is no ground, size and number of lots in a packing."""
    look_at_sizes(many, size, 0)
    if not is_within(count, 0, MOST_PACKED) or count * size > MOST_THINGS_PACKED:
        raise NoSize("0 to 8 lots, of at most 8 things together, are asked for")


def packed(many, size, family, count):
    """What so many lots that miss one another come together to, and few enough ahead of the last."""
    total = count * size
    rows = {}
    lots = carried(many, size, total - size, {lot: (worth, (lot,)) for lot, worth in family}, rows)
    made = lots
    for taken in range(2, count + 1):
        joined = {}
        put_joined(joined, made, lots, 0)
        made = carried(many, taken * size, total - taken * size, joined, rows)
    return made
