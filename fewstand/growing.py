"""Best growths, found by carrying few lots along, layer by layer."""

from fewstand.few import free_part
from fewstand.machines import first_families, grown_families, look_at_length, look_at_machine
from fewstand.papers import told_paper


def best_growth(many, machine, size):
    """A tuple of the greatest worth of a growth of that size and of such a growth, None where there is none."""
    look_at_machine(many, machine)
    look_at_length(size)
    return found_growth(many, machine, size, {})


def found_growth(many, machine, size, rows):
    """The same, of a machine that was looked at, or has more states and steps than those handed in.

    Rows are the rows reckoned ahead, by their lots, for the same ground and size of growths.
    """
    layers = told_fews(many, machine, size, rows)
    ends = machine[3]
    found = [(worth, lot, state) for state in ends for lot, worth in layers[size][state]]
    if len(found) == 0:
        return None
    worth, lot, state = max(found)
    return (worth, traced(machine, layers, lot, worth, state))


def told_fews(many, machine, size, rows):
    """Of each layer, from 0 on, the told few at each state."""
    families = first_families(machine)
    layers = [[free_part(many, 0, size, family, rows) for family in families]]
    for count in range(1, size + 1):
        families = grown_families(machine, layers[-1])
        layers.append([free_part(many, count, size - count, family, rows) for family in families])
    return layers


def traced(machine, layers, lot, worth, state):
    """A growth by which the lot of the last layer came to be worth that much at the state."""
    growth = []
    for fews in reversed(layers[:-1]):
        start, thing, gain = last_step(machine, fews, lot, worth, state)
        growth.append((thing, state))
        lot, worth, state = without(lot, thing), worth - gain, start
    return growth[::-1]


def last_step(machine, fews, lot, worth, state):
    """A step, told without its end, by which one of the fews became the lot worth that much at the state."""
    steps = machine[2]
    # What has grown has grown so from some few: there is always one.
    return [(start, thing, gain) for start, thing, end, gain in steps
            if end == state and thing in lot and (without(lot, thing), worth - gain) in fews[start]][0]


def without(lot, thing):
    """The lot less a thing."""
    return tuple([one for one in lot if one != thing])


def growth_paper(many, machine, size):
    """The paper of growth with told papers everywhere."""
    look_at_machine(many, machine)
    look_at_length(size)
    families = first_families(machine)
    layers = [[told_paper(many, 0, size, family) for family in families]]
    for count in range(1, size + 1):
        families = grown_families(machine, [few for few, sums in layers[-1]])
        layers.append([told_paper(many, count, size - count, family) for family in families])
    return layers
