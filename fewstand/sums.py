"""Rows over a prime: which are free, and by which shares one leans on others."""

from fewstand.numbers import contrary


def free_ones(prime, rows):
    """The numbers of the rows that don't lean on the ones ahead of them, rising."""
    kept = []
    free = []
    for at, row in enumerate(rows):
        if keep(prime, kept, row, len(row)):
            free.append(at)
    return free


def shares(prime, rows, row):
    """The numbers by which row leans on rows, of which each is free, None where it doesn't."""
    width = len(row)
    kept = []
    for at, one in enumerate(rows):
        # Behind its numbers each row carries which of the rows it is a sum of.
        keep(prime, kept, one + marks(len(rows), at), width)
    left = cleared(prime, kept, row + [0] * len(rows))
    if first_filled(left, width) is not None:
        return None
    # What was taken away to come to noughts is what the row leans by.
    return [(-number) % prime for number in left[width:]]


def leanings(prime, rows):
    """Of each row None where it is free, else the shares of the free ones ahead of it."""
    kept = []
    told = []
    for row in rows:
        # Free rows are at most as many as places: so many marks will do.
        width = len(row)
        count = len(kept)
        left = cleared(prime, kept, row + [0] * width)
        if first_filled(left, width) is None:
            told.append([(-number) % prime for number in left[width:width + count]])
        else:
            keep(prime, kept, row + marks(width, count), width)
            told.append(None)
    return told


def marks(count, at):
    """So many noughts, but 1 at that place."""
    return [1 if place == at else 0 for place in range(count)]


def keep(prime, kept, row, width):
    """Keep a row unless, at its first width places, it leans on the kept ones; whether it is kept.

    What is kept is a tuple of a place and the row changed: 1 there, and 0 at the places kept ahead.
    """
    left = cleared(prime, kept, row)
    place = first_filled(left, width)
    if place is None:
        return False
    factor = contrary(prime, left[place])
    kept.append((place, [(number * factor) % prime for number in left]))
    return True


def cleared(prime, kept, row):
    """The row less the kept rows, each so often that it is 0 at their places."""
    left = [number % prime for number in row]
    for place, one in kept:
        factor = left[place]
        if factor != 0:
            left = [(number - factor * taken) % prime for number, taken in zip(left, one)]
    return left


def first_filled(row, width):
    """The first of width places at which the row isn't 0, None where there is none."""
    for place in range(width):
        if row[place] != 0:
            return place
    return None
