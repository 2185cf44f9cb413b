"""Trees of a plan in a web: what they are worth, and best ones."""

from fewstand.carrying import best_made, carried, put_joined
from fewstand.errors import NoPlan
from fewstand.numbers import is_within
from fewstand.webs import are_places, look_at_web, worth_of_arcs

MOST_PARTS = 7


def look_at_plan(thing):
    """Refuse, with NoPlan, what is no plan of a tree."""
    if not isinstance(thing, list) or len(thing) < 1 or len(thing) > MOST_PARTS or thing[0] is not None:
        raise NoPlan("a list of one to seven parts, the first None, is asked for")
    for part in range(1, len(thing)):
        if not is_within(thing[part], 0, part - 1):
            raise NoPlan("of each part but the first a part ahead of it is asked for")


def tree_worth(web, plan, thing):
    """What thing is worth as a tree of the plan in the web, None where it is none."""
    look_at_web(web)
    look_at_plan(plan)
    if not are_places(web[0], thing) or len(thing) != len(plan):
        return None
    return worth_of_arcs(web, [(thing[plan[part]], thing[part]) for part in range(1, len(plan))])


def best_tree(web, plan):
    """A tuple of the greatest worth of a tree of the plan and of such a tree, None where there is none."""
    look_at_web(web)
    look_at_plan(plan)
    branches = [single_places(web[0], part) for part in range(len(plan))]
    sizes = [1 for part in plan]
    rows = {}
    # All parts below a part stand behind it: from the last on, each branch is whole when it is hung up.
    for part in reversed(range(1, len(plan))):
        above = plan[part]
        sizes[above] += sizes[part]
        size = sizes[above]
        branches[above] = hung(web, branches[above], branches[part], size, len(plan) - size, rows)
    found = [best_made(made) for made in branches[0]]
    told = max([one for one in found if one is not None], default=None)
    return None if told is None else (told[0], [place for part, place in sorted(told[1])])


def single_places(many, part):
    """Of each place the branch that has the part there, and nothing else."""
    return [{(place,): (0, ((part, place),))} for place in range(many)]


def hung(web, branches, below, size, strangers, rows):
    """Of each place the branches there, each with one of those below it; of that size, and few enough."""
    many, arcs = web
    made = [{} for place in range(many)]
    for start, end, worth in arcs:
        put_joined(made[start], branches[start], below[end], worth)
    return [carried(many, size, strangers, some, rows) for some in made]
