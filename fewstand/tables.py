"""Lines of things, rows of lots and meeting numbers, over a prime."""

from fewstand.choosing import choices
from fewstand.errors import NoLot
from fewstand.lots import is_lot
from fewstand.numbers import prime_from


def prime_for(many, strangers):
    """The prime for a ground of many things and so many strangers."""
    return prime_from(many + strangers)


def line(many, size, strangers, thing):
    """The line of a thing: 1, the thing, it times itself, and so on, over the prime."""
    prime = prime_for(many, strangers)
    told = []
    power = 1
    while len(told) < size + strangers:
        told.append(power)
        power = (power * thing) % prime
    return told


def row_of(many, size, strangers, lot):
    """The row of a lot: a determinant for each choice of as many places as it has things."""
    if not is_lot(many, size, lot):
        raise NoLot("a lot of the ground and the size is asked for")
    lines = [line(many, size, strangers, thing) for thing in lot]
    return determinants(prime_for(many, strangers), lines, size + strangers)


def meeting(many, lot, others):
    """The meeting number of a lot and of other things: 0 just where they share one."""
    size, strangers = len(lot), len(others)
    lines = [line(many, size, strangers, thing) for thing in lot + others]
    # With as many lines as places there is one choice of them, so one determinant.
    return determinants(prime_for(many, strangers), lines, size + strangers)[0]


def determinants(prime, lines, width):
    """The determinants of the lines at each choice of as many of width places, in their order."""
    known = {(): 1}
    for above, last in enumerate(lines):
        known = {places: grown(prime, known, last, places) for places in choices(width, above + 1)}
    return list(known.values())


def grown(prime, known, last, places):
    """The determinant at these places of a last line below those whose determinants are known."""
    total = 0
    # Last line and last place meet with a plus, and the signs change with each place ahead.
    sign = 1
    for at in reversed(range(len(places))):
        others = places[:at] + places[at + 1:]
        total += sign * last[places[at]] * known[others]
        sign = -sign
    return total % prime
