"""Choices of some of many places."""


def choices(many, some):
    """All tuples of some rising numbers from 0 to below many, sorted."""
    if some < 0 or some > many:
        return []
    found = [()]
    for taken in range(some):
        # Room is left for the places still to be taken, so each start can be gone on with.
        end = many - some + taken + 1
        found = [chosen + (place,) for chosen in found for place in range(after(chosen), end)]
    return found


def after(chosen):
    """The least place behind all chosen ones."""
    return chosen[-1] + 1 if len(chosen) > 0 else 0


def how_many(many, some):
    """How many choices of some of many there are."""
    if some < 0 or some > many:
        return 0
    count = 1
    for taken in range(some):
        # A choice and a place more: each choice of taken + 1 comes up that often.
        count = count * (many - taken) // (taken + 1)
    return count
