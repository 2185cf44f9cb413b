"""Things of every kind, and what several tests reckon for themselves."""

import itertools

from fewstand.sums import shares


def no_whole_numbers():
    return [True, False, None, "", "1", "abc", b"", b"\x02", [], [2], (), (2,), {}, {2: 2},
            {2}, frozenset([2]), 2.0, 2.5, object(), int, len, range(3)]


def things_of_other_kinds():
    """No lists, and no tuples of two or more."""
    return [True, False, None, 0, 1, -1, 7, "", "ab", b"", b"ab", (), (None,), {}, {0: 0}, set(), {1}, frozenset(),
            1.5, object(), list, len, range(2)]


def wrong_sizes():
    """Grounds, sizes and strangers, at least one of which is none."""
    told = [(many, 2, 2) for many in no_whole_numbers() + [0, -1, 31, 32, 10 ** 40]]
    told += [(6, size, 2) for size in no_whole_numbers() + [-1, 7, 9, -(10 ** 40), 10 ** 40]]
    told += [(6, 2, strangers) for strangers in no_whole_numbers() + [-1, 7, 9, -(10 ** 40), 10 ** 40]]
    told += [(6, 9, 0), (6, 0, 9), (6, 9, -1), (6, -1, 9), (6, 8, 1), (6, 1, 8), (6, 5, 4), (6, 4, 5), (6, 10, -2)]
    return told + [(0, 0, 0), (31, 0, 0), (0, 9, 9), (None, None, None)]


def determinant(rows):
    """By the first row, over whole numbers."""
    if not rows:
        return 1
    return sum((-1) ** place * number * determinant([row[:place] + row[place + 1:] for row in rows[1:]])
               for place, number in enumerate(rows[0]) if number)


def least_prime(number):
    while number < 2 or any(number % divisor == 0 for divisor in range(2, number)):
        number += 1
    return number


def row_by_hand(many, size, strangers, lot):
    width = size + strangers
    return [determinant([[thing ** place for place in places] for thing in lot]) % least_prime(many + strangers)
            for places in itertools.combinations(range(width), size)]


def rank(prime, rows):
    """How many of the rows are free, by putting all into steps, with powers for contraries."""
    rows = [[number % prime for number in row] for row in rows]
    found = 0
    for place in range(len(rows[0]) if rows else 0):
        at = next((at for at in range(found, len(rows)) if rows[at][place]), None)
        if at is None:
            continue
        rows[found], rows[at] = rows[at], rows[found]
        factor = pow(rows[found][place], prime - 2, prime)
        for below in range(found + 1, len(rows)):
            times = rows[below][place] * factor
            rows[below] = [(a - times * b) % prime for a, b in zip(rows[below], rows[found])]
        found += 1
    return found


def best_of(family, strangers):
    return max((worth for lot, worth in family if not set(lot) & set(strangers)), default=None)


def stands_by_hand(many, strangers, family, few):
    return all(best_of(few, some) == best_of(family, some)
               for count in range(strangers + 1) for some in itertools.combinations(range(many), count))


def added(prime, many, size, strangers, parts):
    rows = [(row_by_hand(many, size, strangers, lot), share) for lot, share in parts]
    return [sum(row[place] * share for row, share in rows) % prime
            for place in range(len(row_by_hand(many, size, strangers, tuple(range(size)))))]


def is_paper_by_hand(many, size, strangers, family, paper):
    """Of what has the kinds of a paper."""
    few, sums = paper
    prime = least_prime(many + strangers)
    if len(set(few)) != len(few) or not set(few) <= set(family):
        return False
    worths = dict(family)
    lots = [lot for lot, worth in few]
    if [lot for lot, parts in sums] != sorted(lot for lot in worths if lot not in lots):
        return False
    for lot, parts in sums:
        used = [part for part, share in parts]
        if used != sorted(set(used)) or not set(used) <= set(lots) or any(worths[part] < worths[lot] for part in used):
            return False
        if not all(1 <= share < prime for part, share in parts):
            return False
        if added(prime, many, size, strangers, parts) != row_by_hand(many, size, strangers, lot):
            return False
    return True


def other_paper(chance, many, size, strangers, family):
    """A paper that is not the told one: another order of those of one worth, and some lots more in the few."""
    prime = least_prime(many + strangers)
    few, free, sums = [], [], []
    for lot, worth in sorted(chance.sample(family, len(family)), key=lambda one: -one[1]):
        row = row_by_hand(many, size, strangers, lot)
        told = shares(prime, [one for part, one in free], row)
        if told is None:
            free.append((lot, row))
        if told is None or chance.random() < 0.1:
            few.append((lot, worth))
        else:
            parts = [(part, share) for (part, one), share in zip(free, told) if share]
            sums.append((lot, sorted(parts)))
    return (chance.sample(few, len(few)), sorted(sums))


def changed(paper, at, thing):
    """The paper with another thing at a place within it, which is told by a tuple of numbers."""
    if not at:
        return thing
    rows = list(paper)
    rows[at[0]] = changed(rows[at[0]], at[1:], thing)
    return type(paper)(rows)


def places(paper):
    """All places within what is told, the whole of it first."""
    told = [()]
    if isinstance(paper, (list, tuple)):
        for at, one in enumerate(paper):
            told += [(at,) + more for more in places(one)]
    return told


def taken(paper, at):
    for number in at:
        paper = paper[number]
    return paper


def some_family(chance, many, size, most, worths):
    """A family of at most so many lots, in any order, worths from -worths to worths."""
    lots = list(itertools.combinations(range(many), size))
    lots = chance.sample(lots, min(len(lots), most))
    return [(lot, chance.randint(-worths, worths)) for lot in lots]


def wrong_machines():
    """For a ground of four things, each with the number of its first wrong part."""
    good = (3, [0, 1], [(0, 1, 2, 5), (2, 3, 0, 0)], [0, 2])
    told = [(thing, None) for thing in things_of_other_kinds() + [[], list(good), good[:3], good + (0,), (0,) * 5]]
    told += [((states,) + good[1:], 0) for states in [0, 13, -1, None, True, "3", [3], 2.0]]
    told += [((0, None, None, None), 0), ((None,) * 4, 0)]
    told += [((3, begins) + good[2:], 1) for begins in [None, (0, 1), [1, 0], [0, 0], [3], [-1], [True], ["a"], 0]]
    told += [((3, [5], None, None), 1)]
    told += [((3, [0], steps, [0]), 2)
             for steps in [None, (), 0, [None], [(0, 1, 2)], [(0, 1, 2, True)], [(0, 4, 2, 1)], [(3, 1, 2, 1)],
                           [(0, 1, 3, 1)], [[0, 1, 2, 5]], [(0, 1, 2, 5), (0, 1, 2, 6)], [(False, 1, 2, 5)]]]
    told += [((3, [0], [None], None), 2)]
    told += [(good[:3] + (ends,), 3) for ends in [None, (0, 1), [1, 0], [2, 2], [3], [-1], [False], ["a"], 0]]
    return told


def wrong_lengths():
    return no_whole_numbers() + [0, 8, -1, 9, 10 ** 40, -(10 ** 40)]


def some_machine(chance, many, states, count):
    """A machine with some of all steps that can be, worths of both signs."""
    steps = list(itertools.product(range(states), range(many), range(states)))
    steps = [step + (chance.randint(-5, 5),) for step in chance.sample(steps, min(len(steps), count))]
    begins = [state for state in range(states) if chance.random() < 0.6]
    ends = [state for state in range(states) if chance.random() < 0.6]
    return (states, begins, steps, ends)


def growth_worth_by_hand(machine, growth):
    """By going through all rows of as many steps: only of small machines."""
    states, begins, steps, ends = machine
    if len({thing for thing, state in growth}) < len(growth):
        return None
    ways = [[step for step in steps if step[1:3] == one] for one in growth]
    worths = [sum(step[3] for step in row) for row in itertools.product(*ways)
              if row[0][0] in begins and row[-1][2] in ends
              and all(one[2] == other[0] for one, other in zip(row, row[1:]))]
    return max(worths, default=None)


def growths_by_hand(machine, size):
    """All growths of that size, with their worths, by going through all rows of steps."""
    states, begins, steps, ends = machine
    rows = [((), begin, 0) for begin in begins]
    for turn in range(size):
        rows = [(row + ((thing, end),), end, worth + gain) for row, state, worth in rows
                for start, thing, end, gain in steps if start == state and thing not in [one for one, to in row]]
    told = {}
    for row, state, worth in rows:
        if state in ends:
            told[row] = max(worth, told.get(row, worth))
    return told


def best_by_hand(machine, size):
    return max(growths_by_hand(machine, size).values(), default=None)


def grown_by_hand(machine, fews):
    """The grown families, one for each state, by going through each lot with each step."""
    told = []
    for state in range(machine[0]):
        grown = [(tuple(sorted(lot + (thing,))), worth + gain) for start, thing, end, gain in machine[2]
                 for lot, worth in fews[start] if end == state and thing not in lot]
        told.append([(lot, max(worth for one, worth in grown if one == lot)) for lot in {lot for lot, worth in grown}])
    return told


def wrong_webs():
    """What is no web, of every kind."""
    arcs = [(0, 1, 5), (1, 2, -4)]
    told = things_of_other_kinds() + [[], [3, arcs], (3,), (3, arcs, 0), (arcs, 3), (None, None), (0, [])]
    told += [(many, []) for many in no_whole_numbers() + [0, 13, -1, 10 ** 40]]
    told += [(3, thing) for thing in things_of_other_kinds() + [tuple(arcs), {(0, 1): 5}]]
    told += [(3, arcs + [arc]) for arc in [None, (0, 2), [0, 2, 1], (0, 2, 1, 1), (2, 2, 1), (0, 3, 1), (-1, 0, 1),
                                           (0, 1, 5), (0, 1, 6), (True, 2, 1), (2, False, 1), (0, 2, True),
                                           (0, 2, None), (0, 2, 1.0), ("0", 2, 1)]]
    return told + [(12, [(start, end, 1) for start, end in itertools.permutations(range(12), 2)][:61])]


def some_web(chance, many, count, worths):
    """A web of many places with at most so many arcs, worths from -worths to worths."""
    pairs = list(itertools.permutations(range(many), 2))
    pairs = chance.sample(pairs, min(len(pairs), count))
    return (many, [(start, end, chance.randint(-worths, worths)) for start, end in pairs])


def full_web():
    """A web of twelve places with sixty arcs: from each place to the five behind it, around."""
    return (12, [(place, (place + more) % 12, (place * 7 + more * more * 5) % 23 - 9)
                 for place in range(12) for more in range(1, 6)])


def ways_by_hand(web, size):
    """All ways of so many places, with their worths, one place behind the other."""
    many, arcs = web
    rows = [((place,), 0) for place in range(many)]
    for turn in range(size - 1):
        rows = [(row + (end,), worth + gain) for row, worth in rows
                for start, end, gain in arcs if start == row[-1] and end not in row]
    return dict(rows)


def rings_by_hand(web, size):
    """All rings of so many places, with their worths."""
    back = {(start, end): worth for start, end, worth in web[1]}
    return {row: worth + back[(row[-1], row[0])] for row, worth in ways_by_hand(web, size).items()
            if row[0] == min(row) and (row[-1], row[0]) in back}


def trees_by_hand(web, plan):
    """All trees of the plan, with their worths, part by part."""
    many, arcs = web
    rows = [((place,), 0) for place in range(many)]
    for above in plan[1:]:
        rows = [(row + (end,), worth + gain) for row, worth in rows
                for start, end, gain in arcs if start == row[above] and end not in row]
    return dict(rows)


def moved_web(web, names):
    """The web with each place p called names[p]."""
    return (web[0], [(names[start], names[end], worth) for start, end, worth in web[1]])


def side_by_side(one, other):
    """Two webs in one, the places of the other behind those of the first."""
    many = one[0]
    return (many + other[0], one[1] + [(start + many, end + many, worth) for start, end, worth in other[1]])


def packings_by_hand(family, count):
    """All packings of so many lots, with their worths."""
    told = {}
    for some in itertools.combinations(sorted(family), count):
        things = [thing for lot, worth in some for thing in lot]
        if len(set(things)) == len(things):
            told[tuple(lot for lot, worth in some)] = sum(worth for lot, worth in some)
    return told


def greater(one, other):
    """The greater of two worths, each of which may be None."""
    return max([worth for worth in [one, other] if worth is not None], default=None)
