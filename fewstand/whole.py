"""Small families gone through whole: needed lots, and all fews that stand."""

from fewstand.choosing import choices
from fewstand.errors import TooMany
from fewstand.lots import best, look_at_family, misses
from fewstand.standing import look_at_strangers

MOST_LOTS_GONE_THROUGH = 10


def needed(many, size, strangers, family):
    """The lots without which the others don't stand for the family, sorted."""
    look_at_small(many, size, strangers, family)
    wanted = wanted_sets(many, strangers, family)
    every = (1 << len(family)) - 1
    return sorted([lot for at, (lot, worth) in enumerate(family) if not has_of_each(wanted, every - (1 << at))])


def fewest(many, size, strangers, family):
    """A few that stands of as few lots as can be, sorted by lots."""
    return sorted(min(standing_fews(many, size, strangers, family), key=len))


def how_many_stand(many, size, strangers, family):
    """How many fews stand for the family, apart from order."""
    return len(standing_fews(many, size, strangers, family))


def look_at_small(many, size, strangers, family):
    """Refuse, with NoFamily, what is no family, then, with TooMany, what is too much to be gone through."""
    look_at_family(many, size, family)
    look_at_strangers(many, strangers)
    if len(family) > MOST_LOTS_GONE_THROUGH:
        raise TooMany("there are more than 10 lots to go through")


def standing_fews(many, size, strangers, family):
    """All fews that stand, in the family's order."""
    look_at_small(many, size, strangers, family)
    wanted = wanted_sets(many, strangers, family)
    held = [number for number in range(1 << len(family)) if has_of_each(wanted, number)]
    return [[one for at, one in enumerate(family) if number & (1 << at) != 0] for number in held]


def wanted_sets(many, strangers, family):
    """The sets of lots of each of which a few that stands has one, as numbers with a bit for each lot."""
    found = {}
    for count in range(strangers + 1):
        for some in choices(many, count):
            most = best(family, some)
            # Where no lot misses the strangers, none is wanted.
            if most is not None:
                found[best_ones(family, some, most)] = True
    return list(found)


def best_ones(family, strangers, most):
    """The set of the lots that miss the strangers and are worth most."""
    return sum([1 << at for at, (lot, worth) in enumerate(family) if worth == most and misses(lot, strangers)])


def has_of_each(wanted, held):
    """Whether the held set shares a lot with each of those wanted."""
    return all([held & one != 0 for one in wanted])
