"""Rings in a web: what they are worth, and best ones."""

from fewstand.errors import NoSize
from fewstand.growing import found_growth
from fewstand.numbers import is_within
from fewstand.webs import are_places, look_at_web, worth_of_arcs

SHORTEST_RING = 2
LONGEST_RING = 7


def ring_worth(web, thing):
    """What thing is worth as a ring of the web, None where it is none."""
    look_at_web(web)
    if not are_places(web[0], thing) or len(thing) < SHORTEST_RING or thing[0] != min(thing):
        return None
    return worth_of_arcs(web, list(zip(thing, thing[1:] + thing[:1])))


def best_ring(web, size):
    """A tuple of the greatest worth of a ring of that size and of such a ring, None where there is none."""
    look_at_web(web)
    if not is_within(size, SHORTEST_RING, LONGEST_RING):
        raise NoSize("a whole number from 2 to 7 is asked for")
    rows = {}
    found = [best_ring_from(web, size, least, rows) for least in range(web[0])]
    return max([ring for ring in found if ring is not None], default=None)


def best_ring_from(web, size, least, rows):
    """The same, of the rings with that least place; rows are those reckoned ahead, by their lots."""
    many, arcs = web
    steps = [(start, end, end, worth) for start, end, worth in arcs if min(start, end) >= least]
    # The least place is begun at without being taken, so it is taken once, where the ring comes back to it.
    found = found_growth(many, (many, [least], steps, [least]), size, rows)
    if found is None:
        return None
    worth, growth = found
    return (worth, [least] + [place for place, state in growth[:-1]])
