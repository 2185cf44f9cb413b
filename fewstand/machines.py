"""Machines, what growths are worth that they take, and what lots grow to by their steps."""

from fewstand.errors import NoMachine, NoSize
from fewstand.lots import is_lot
from fewstand.numbers import is_whole, is_within

MOST_STATES = 12
MOST_STEPS = 60
LONGEST_GROWTH = 7


def look_at_machine(many, thing):
    """Refuse, with NoMachine, what is no machine for a ground of many things."""
    if not isinstance(thing, tuple) or len(thing) != 4:
        raise NoMachine(None)
    states, begins, steps, ends = thing
    if not is_within(states, 1, MOST_STATES):
        raise NoMachine(0)
    if not are_states(states, begins):
        raise NoMachine(1)
    if not are_steps(many, states, steps):
        raise NoMachine(2)
    if not are_states(states, ends):
        raise NoMachine(3)


def are_states(states, thing):
    """Whether thing is a rising list of states."""
    return isinstance(thing, list) and is_lot(states, len(thing), tuple(thing))


def are_steps(many, states, thing):
    """Whether thing is a list of at most 60 steps, no two alike in their first three."""
    if not isinstance(thing, list) or len(thing) > MOST_STEPS:
        return False
    seen = {}
    for step in thing:
        if not is_step(many, states, step) or step[:3] in seen:
            return False
        seen[step[:3]] = True
    return True


def is_step(many, states, thing):
    """Whether thing is a tuple (state, thing, state, worth)."""
    if not isinstance(thing, tuple) or len(thing) != 4:
        return False
    start, by, end, worth = thing
    last = states - 1
    return is_within(start, 0, last) and is_within(by, 0, many - 1) and is_within(end, 0, last) and is_whole(worth)


def look_at_length(size):
    """Refuse, with NoSize, what is no length of a growth."""
    if not is_within(size, 1, LONGEST_GROWTH):
        raise NoSize("a whole number from 1 to 7 is asked for")


def growth_worth(many, machine, size, thing):
    """What thing is worth as a growth of that size, None where it is none."""
    look_at_machine(many, machine)
    look_at_length(size)
    if not is_row_of_unlike_things(size, thing):
        return None
    states, begins, steps, ends = machine
    worths = {(start, by, end): worth for start, by, end, worth in steps}
    reached = {begin: 0 for begin in begins}
    for by, end in thing:
        found = [worth + worths[(start, by, end)] for start, worth in reached.items() if (start, by, end) in worths]
        reached = {end: max(found)} if len(found) > 0 else {}
    return max([worth for state, worth in reached.items() if state in ends], default=None)


def is_row_of_unlike_things(size, thing):
    """Whether thing is a list of so many tuples of two whole numbers, the first ones unlike."""
    if not isinstance(thing, list) or len(thing) != size:
        return False
    seen = {}
    for one in thing:
        if not isinstance(one, tuple) or len(one) != 2 or not is_whole(one[0]) or not is_whole(one[1]):
            return False
        if one[0] in seen:
            return False
        seen[one[0]] = True
    return True


def first_families(machine):
    """Of each state the family that growths begin with: the lot without things at the begins."""
    states, begins, steps, ends = machine
    return [[((), 0)] if state in begins else [] for state in range(states)]


def grown_families(machine, fews):
    """Of each state the family that the fews, one of each state, grow to by one step more."""
    states, begins, steps, ends = machine
    grown = [{} for state in range(states)]
    for start, thing, end, gain in steps:
        for lot, worth in fews[start]:
            if thing not in lot:
                more = tuple(sorted(lot + (thing,)))
                # The same lot may be come to by several steps: the greatest worth counts.
                grown[end][more] = max(worth + gain, grown[end].get(more, worth + gain))
    return [sorted(list(family.items())) for family in grown]
