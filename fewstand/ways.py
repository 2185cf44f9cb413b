"""Ways in a web: what they are worth, and best ones."""

from fewstand.growing import found_growth
from fewstand.machines import look_at_length
from fewstand.webs import are_places, look_at_web, worth_of_arcs


def way_worth(web, thing):
    """What thing is worth as a way of the web, None where it is none."""
    look_at_web(web)
    if not are_places(web[0], thing) or len(thing) < 1:
        return None
    return worth_of_arcs(web, list(zip(thing, thing[1:])))


def best_way(web, size):
    """A tuple of the greatest worth of a way of that size and of such a way, None where there is none."""
    look_at_web(web)
    look_at_length(size)
    found = found_growth(web[0], way_machine(web), size, {})
    if found is None:
        return None
    worth, growth = found
    return (worth, [place for place, state in growth])


def way_machine(web):
    """A machine whose growths are the ways, by the places come to."""
    many, arcs = web
    # From a state beyond the places each of them can be begun with, for nothing.
    steps = [(many, place, place, 0) for place in range(many)]
    steps += [(start, end, end, worth) for start, end, worth in arcs]
    return (many + 1, [many], steps, list(range(many)))
