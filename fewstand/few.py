"""The told few of a family: those whose rows are free, greater worths first."""

from fewstand.errors import NoSize
from fewstand.lots import look_at_family
from fewstand.numbers import is_within
from fewstand.sums import free_ones
from fewstand.tables import prime_for, row_of

MOST_THINGS = 30
MOST_PLACES = 8


def ordered(family):
    """The family, greater worths first, those of one worth by their lots."""
    return sorted(family, key=lambda one: (-one[1], one[0]))


def few_of(many, size, strangers, family):
    """The told few of the family for a ground of many things and so many strangers."""
    look_at_sizes(many, size, strangers)
    look_at_family(many, size, family)
    return free_part(many, size, strangers, family)


def look_at_sizes(many, size, strangers):
    """Refuse, with NoSize, what is no ground, size and number of strangers."""
    if not is_within(many, 1, MOST_THINGS):
        raise NoSize("a ground of 1 to 30 things is asked for")
    if not is_within(size, 0, MOST_PLACES):
        raise NoSize("a size from 0 to 8 is asked for")
    if not is_within(strangers, 0, MOST_PLACES - size):
        raise NoSize("size and strangers from 0 to 8 together are asked for")


def free_part(many, size, strangers, family):
    """The told few of a family that was looked at, or is longer than those handed in."""
    in_order = ordered(family)
    rows = rows_of(many, size, strangers, in_order)
    return [in_order[at] for at in free_ones(prime_for(many, strangers), rows)]


def rows_of(many, size, strangers, family):
    """The rows of the family's lots, in their order."""
    return [row_of(many, size, strangers, lot) for lot, worth in family]
