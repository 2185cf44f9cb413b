"""Papers: a few, and sums by which each lot left out leans on lots of it."""

from fewstand.few import look_at_sizes, ordered, rows_of
from fewstand.lots import is_lot, look_at_family
from fewstand.numbers import is_within
from fewstand.standing import is_few
from fewstand.sums import leanings
from fewstand.tables import prime_for, row_of


def paper_of(many, size, strangers, family):
    """The told paper of the family: the told few, and a sum for each lot left out."""
    look_at_sizes(many, size, strangers)
    look_at_family(many, size, family)
    return told_paper(many, size, strangers, family)


def told_paper(many, size, strangers, family):
    """The told paper of a family that was looked at, or is longer than those handed in."""
    in_order = ordered(family)
    rows = rows_of(many, size, strangers, in_order)
    few = []
    sums = []
    for one, leaning in zip(in_order, leanings(prime_for(many, strangers), rows)):
        if leaning is None:
            few.append(one)
        else:
            # The few so far is what the row can lean on: free, and worth no less.
            sums.append((one[0], parts_of(few, leaning)))
    return (few, sorted(sums))


def parts_of(few, leaning):
    """The lots of the few that are leant on, with their shares, sorted by lots."""
    return sorted([(lot, share) for (lot, worth), share in zip(few, leaning) if share != 0])


def is_paper(many, size, strangers, family, thing):
    """Whether thing is a paper for the ground, the size, so many strangers and the family."""
    look_at_sizes(many, size, strangers)
    look_at_family(many, size, family)
    return proves(many, size, strangers, family, thing)


def proves(many, size, strangers, family, thing):
    """Whether thing is a paper for a family that was looked at, or is longer than those handed in."""
    if not is_couple(thing):
        return False
    few, sums = thing
    if not is_few(many, size, family, few):
        return False
    prime = prime_for(many, strangers)
    if not are_sums(many, size, prime, left_out(family, few), {lot: worth for lot, worth in few}, sums):
        return False
    return add_up(many, size, strangers, sums)


def is_couple(thing):
    """Whether thing is a tuple of two."""
    return isinstance(thing, tuple) and len(thing) == 2


def left_out(family, few):
    """The part of the family that the few has not, sorted by lots."""
    had = {lot: True for lot, worth in few}
    return sorted([(lot, worth) for lot, worth in family if lot not in had])


def are_sums(many, size, prime, left, worths, thing):
    """Whether thing is a list with a lot and parts for each one left, whatever the parts add up to."""
    if not isinstance(thing, list) or len(thing) != len(left):
        return False
    for one, (lot, worth) in zip(thing, left):
        # Kinds are looked at ahead of ==, for which True is 1.
        if not is_couple(one) or not is_lot(many, size, one[0]) or one[0] != lot:
            return False
        if not are_parts(many, size, prime, worth, worths, one[1]):
            return False
    return True


def are_parts(many, size, prime, worth, worths, thing):
    """Whether thing is a list of lots with shares, sorted by lots, of these worths and worth no less."""
    if not isinstance(thing, list):
        return False
    ahead = None
    for part in thing:
        if not is_couple(part) or not is_lot(many, size, part[0]) or not is_within(part[1], 1, prime - 1):
            return False
        lot = part[0]
        if lot not in worths or worths[lot] < worth or (ahead is not None and lot <= ahead):
            return False
        ahead = lot
    return True


def add_up(many, size, strangers, sums):
    """Whether the rows of the parts, each times its share, add up to the row of each lot."""
    prime = prime_for(many, strangers)
    rows = {}
    for lot, parts in sums:
        for one in [lot] + [part for part, share in parts]:
            if one not in rows:
                rows[one] = row_of(many, size, strangers, one)
        if added(prime, rows, parts, len(rows[lot])) != rows[lot]:
            return False
    return True


def added(prime, rows, parts, width):
    """The sum of the rows of the parts, each times its share."""
    total = [0] * width
    for lot, share in parts:
        total = [(number + share * more) % prime for number, more in zip(total, rows[lot])]
    return total
