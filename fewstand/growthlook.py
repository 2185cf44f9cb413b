"""The checker of papers of growth, and what they tell."""

from fewstand.machines import first_families, grown_families, look_at_length, look_at_machine
from fewstand.papers import proves


def is_growth_paper(many, machine, size, thing):
    """Whether thing is a paper of growth of that size for the machine."""
    look_at_machine(many, machine)
    look_at_length(size)
    if not isinstance(thing, list) or len(thing) != size + 1:
        return False
    families = first_families(machine)
    for count, layer in enumerate(thing):
        # The layer ahead was looked at, so what it grows to can be reckoned.
        if count > 0:
            families = grown_families(machine, [few for few, sums in thing[count - 1]])
        if not is_layer(many, count, size - count, families, layer):
            return False
    return True


def is_layer(many, size, strangers, families, thing):
    """Whether thing is a list with a paper for the family at each state."""
    if not isinstance(thing, list) or len(thing) != len(families):
        return False
    return all([proves(many, size, strangers, family, paper) for family, paper in zip(families, thing)])


def growth_tells(machine, paper):
    """The greatest worth of the fews at the ends in the last layer, None where these are empty."""
    ends = machine[3]
    fews = [few for few, sums in paper[-1]]
    return max([worth for state in ends for lot, worth in fews[state]], default=None)
