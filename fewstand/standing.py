"""Fews, and whether they stand for a family, by going through all strangers."""

from fewstand.choosing import choices, how_many
from fewstand.errors import TooMany
from fewstand.lots import best, is_lot_with_worth, look_at_family

MOST_STRANGERS = 2000


def stands(many, size, strangers, family, thing):
    """Whether thing is a few that stands for the family with so many strangers."""
    look_at_family(many, size, family)
    look_at_strangers(many, strangers)
    if not is_few(many, size, family, thing):
        return False
    for count in range(strangers + 1):
        for some in choices(many, count):
            if best(thing, some) != best(family, some):
                return False
    return True


def look_at_strangers(many, strangers):
    """Refuse, with TooMany, what has more than 2000 tuples of strangers to go through."""
    if sum([how_many(many, count) for count in range(strangers + 1)]) > MOST_STRANGERS:
        raise TooMany("there are more than 2000 strangers to go through")


def is_few(many, size, family, thing):
    """Whether thing is a list of tuples of the family, each once."""
    if not isinstance(thing, list):
        return False
    left = {lot: worth for lot, worth in family}
    for one in thing:
        # Kinds are looked at first: True is == 1, but it is no part of a lot, and no worth.
        if not is_lot_with_worth(many, size, one):
            return False
        lot, worth = one
        if lot not in left or left[lot] != worth:
            return False
        del left[lot]
    return True
