"""Webs of places with arcs between them."""

from fewstand.errors import NoWeb
from fewstand.numbers import is_whole, is_within

MOST_PLACES = 12
MOST_ARCS = 60


def look_at_web(thing):
    """Refuse, with NoWeb, what is no web."""
    if not isinstance(thing, tuple) or len(thing) != 2:
        raise NoWeb("a tuple of places and arcs is asked for")
    many, arcs = thing
    if not is_within(many, 1, MOST_PLACES):
        raise NoWeb("1 to 12 places are asked for")
    if not are_arcs(many, arcs):
        raise NoWeb("a list of at most 60 arcs, no two alike in both places, is asked for")


def are_arcs(many, thing):
    """Whether thing is a list of at most 60 arcs, no two alike in both places."""
    if not isinstance(thing, list) or len(thing) > MOST_ARCS:
        return False
    seen = {}
    for arc in thing:
        if not is_arc(many, arc) or arc[:2] in seen:
            return False
        seen[arc[:2]] = True
    return True


def is_arc(many, thing):
    """Whether thing is a tuple (from, to, worth) of unlike places."""
    if not isinstance(thing, tuple) or len(thing) != 3:
        return False
    start, end, worth = thing
    return is_within(start, 0, many - 1) and is_within(end, 0, many - 1) and start != end and is_whole(worth)


def are_places(many, thing):
    """Whether thing is a list of unlike places."""
    if not isinstance(thing, list) or not all([is_within(place, 0, many - 1) for place in thing]):
        return False
    return len(set(thing)) == len(thing)


def worth_of_arcs(web, steps):
    """What the arcs of these steps, tuples (from, to), are worth together, None where one isn't there."""
    worths = {(start, end): worth for start, end, worth in web[1]}
    total = 0
    for step in steps:
        if step not in worths:
            return None
        total += worths[step]
    return total
