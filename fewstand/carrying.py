"""Lots with their worths and how they were made, few of which are carried along.

They are kept as a dict: of each lot a tuple of its greatest worth, and of the tuple of what it was made of.
"""

from fewstand.few import free_part
from fewstand.lots import misses


def put(made, lot, worth, parts):
    """Put the lot among those made, unless it is there with no less a worth."""
    if lot not in made or made[lot][0] < worth:
        made[lot] = (worth, parts)


def put_joined(made, some, others, gain):
    """Put among those made each of some with each of others that it misses, worth so much more together."""
    for lot, (worth, parts) in some.items():
        for other, (more, rest) in others.items():
            if misses(lot, other):
                put(made, tuple(sorted(lot + other)), worth + more + gain, parts + rest)


def carried(many, size, strangers, made, rows):
    """Those made, all of one size, that stand for them with so many strangers; rows are those reckoned ahead."""
    family = [(lot, worth) for lot, (worth, parts) in made.items()]
    return {lot: made[lot] for lot, worth in free_part(many, size, strangers, family, rows)}


def best_made(made):
    """A tuple of the greatest worth of those made and of what such a one was made of, None where there is none."""
    return max([made[lot] for lot in made], default=None)
