"""The told few of a family: those whose rows are free, greater worths first."""

from fewstand.choosing import how_many
from fewstand.errors import NoSize
from fewstand.lots import look_at_family
from fewstand.numbers import is_within
from fewstand.sums import keep
from fewstand.tables import prime_for, row_of

MOST_THINGS = 30
MOST_PLACES = 8


def ordered(family):
    """The family, greater worths first, those of one worth by their lots."""
    return sorted(family, key=lambda one: (-one[1], one[0]))


def few_of(many, size, strangers, family):
    """The told few of the family for a ground of many things and so many strangers."""
    look_at_sizes(many, size, strangers)
    look_at_family(many, size, family)
    return free_part(many, size, strangers, family, {})


def look_at_sizes(many, size, strangers):
    """Refuse, with NoSize, what is no ground, size and number of strangers."""
    if not is_within(many, 1, MOST_THINGS):
        raise NoSize("a ground of 1 to 30 things is asked for")
    if not is_within(size, 0, MOST_PLACES):
        raise NoSize("a size from 0 to 8 is asked for")
    if not is_within(strangers, 0, MOST_PLACES - size):
        raise NoSize("size and strangers from 0 to 8 together are asked for")


def free_part(many, size, strangers, family, rows):
    """The told few of a family that was looked at, or is longer than those handed in.

    Rows are the rows reckoned ahead, by their lots, for the same number of size and strangers together.
    """
    prime = prime_for(many, strangers)
    most = how_many(size + strangers, size)
    kept = []
    told = []
    for one in ordered(family):
        # Of rows of so many numbers no more are free: the rest needn't be reckoned.
        if len(told) == most:
            break
        lot = one[0]
        if lot not in rows:
            rows[lot] = row_of(many, size, strangers, lot)
        if keep(prime, kept, rows[lot], most):
            told.append(one)
    return told


def rows_of(many, size, strangers, family):
    """The rows of the family's lots, in their order."""
    return [row_of(many, size, strangers, lot) for lot, worth in family]
