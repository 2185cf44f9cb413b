"""Over the whole program: what is handed in stays, and what is told is the asker's own."""

import copy
import unittest

from fewstand import (choosing, desk, few, growing, growthlook, keeper, lots, machines, numbers, packings, papers, partners,
                      rings, standing, sums, tables, texts, trees, ways, webs, whole)

FAMILY = [((2, 3), 4), ((0, 1), 5), ((1, 2), 7), ((0, 3), 4), ((1, 3), 4), ((0, 2), 4)]
SINGLE = [((0,), 4), ((1,), 4), ((2,), 2), ((3,), 1)]
PAIRS = [((2,), (0,)), ((1,), (1,)), ((0,), (1,))]
MACHINE = (2, [0], [(0, 1, 1, 5), (1, 2, 1, 4), (1, 1, 1, 9), (0, 2, 1, 1), (1, 0, 1, 2)], [1])
WEB = (4, [(0, 1, 5), (1, 2, -4), (2, 0, 7), (2, 3, 0), (1, 0, 2)])

CALLS = [
    (numbers.is_whole, [1]), (numbers.is_prime, [7]), (numbers.prime_from, [24]), (numbers.contrary, [7, 3]),
    (choosing.choices, [4, 2]), (choosing.choices, [2, 3]), (choosing.choices, [3, 0]), (choosing.how_many, [4, 2]),
    (lots.is_lot, [4, 2, (0, 3)]), (lots.look_at_family, [4, 2, FAMILY]), (lots.misses, [(0, 1), (2,)]),
    (lots.best, [FAMILY, (1,)]), (lots.both, [FAMILY, [((0, 1), 6)]]), (lots.both, [FAMILY, []]), (lots.both, [[], FAMILY]),
    (lots.renamed, [4, FAMILY, [3, 2, 1, 0]]), (lots.renamed, [4, FAMILY, [0, 1, 2, 3]]),
    (standing.stands, [4, 2, 1, FAMILY, FAMILY[:]]), (standing.stands, [4, 2, 1, FAMILY, FAMILY[:2]]),
    (tables.prime_for, [4, 2]), (tables.line, [4, 2, 2, 3]), (tables.line, [4, 0, 0, 3]), (tables.row_of, [4, 2, 1, (1, 3)]),
    (tables.row_of, [4, 0, 1, ()]), (tables.meeting, [4, (1, 3), (0,)]),
    (sums.free_ones, [5, [[1, 2], [2, 4], [0, 1]]]), (sums.free_ones, [5, []]), (sums.shares, [5, [[1, 2], [0, 1]], [3, 3]]),
    (sums.shares, [5, [], [0, 0]]), (sums.shares, [5, [[1, 2]], [1, 2]]),
    (few.ordered, [FAMILY]), (few.ordered, [[]]), (few.few_of, [4, 2, 1, FAMILY]), (few.few_of, [4, 2, 2, FAMILY]), (few.few_of, [4, 1, 1, []]),
    (papers.paper_of, [4, 1, 1, SINGLE]), (papers.paper_of, [4, 2, 1, FAMILY]), (papers.paper_of, [4, 1, 1, []]),
    (papers.is_paper, [4, 1, 1, SINGLE, papers.paper_of(4, 1, 1, SINGLE)]),
    (partners.is_row, [3, 1, 1, [PAIRS[2], PAIRS[0]]]), (partners.longest_row, [3, 1, 1, PAIRS]), (partners.longest_row, [3, 1, 1, []]),
    (machines.look_at_machine, [3, MACHINE]), (machines.growth_worth, [3, MACHINE, 2, [(1, 1), (2, 1)]]),
    (growing.best_growth, [3, MACHINE, 2]), (growing.growth_paper, [3, MACHINE, 2]), (growing.growth_paper, [3, MACHINE, 1]),
    (growthlook.is_growth_paper, [3, MACHINE, 2, growing.growth_paper(3, MACHINE, 2)]),
    (growthlook.growth_tells, [MACHINE, growing.growth_paper(3, MACHINE, 2)]),
    (webs.look_at_web, [WEB]), (ways.way_worth, [WEB, [0, 1, 2]]), (ways.best_way, [WEB, 1]), (ways.best_way, [WEB, 3]),
    (rings.ring_worth, [WEB, [0, 1, 2]]), (rings.best_ring, [WEB, 3]), (rings.best_ring, [WEB, 2]),
    (trees.tree_worth, [WEB, [None, 0, 0], [2, 0, 3]]), (trees.best_tree, [WEB, [None, 0, 0, 1]]), (trees.best_tree, [WEB, [None]]),
    (packings.packing_worth, [FAMILY, [(0, 1), (2, 3)]]), (packings.best_packing, [4, 2, FAMILY, 2]),
    (packings.best_packing, [4, 2, FAMILY, 0]), (packings.best_packing, [4, 2, FAMILY, 1]),
    (whole.needed, [4, 2, 1, FAMILY]), (whole.fewest, [4, 2, 1, FAMILY]), (whole.fewest, [4, 2, 2, FAMILY]), (whole.fewest, [4, 2, 2, []]),
    (whole.how_many_stand, [4, 2, 1, FAMILY]),
    (texts.show_family, [FAMILY]), (texts.read_family, [4, 2, "0 1:5; 2 3:-4"]), (texts.read_family, [4, 2, ""]),
]


def lists_in(thing):
    """All lists in what is told or handed in, the outermost first."""
    told = [thing] if isinstance(thing, list) else []
    if isinstance(thing, (list, tuple)):
        for one in thing:
            told += lists_in(one)
    return told


def spoil(thing):
    """Change every list within, the innermost first."""
    for one in reversed(lists_in(thing)):
        if one:
            one[0] = None
        one.append("spoilt")
        one.reverse()


class Apart(unittest.TestCase):
    def test_every_function_of_the_interface_is_called(self):
        self.assertEqual(len({call for call, told in CALLS}), 45)

    def test_what_is_handed_in_stays(self):
        for call, told in CALLS:
            with self.subTest(call.__name__, told=told):
                given = copy.deepcopy(told)
                call(*given)
                self.assertEqual(given, told)

    def test_told_lists_are_apart_from_all_others(self):
        for call, told in CALLS:
            with self.subTest(call.__name__, told=told):
                given = copy.deepcopy(told)
                all_lists = lists_in(call(*given)) + lists_in(call(*given)) + lists_in(given)
                self.assertEqual(len({id(one) for one in all_lists}), len(all_lists))

    def test_spoilt_by_the_asker_and_told_anew(self):
        for call, told in CALLS:
            with self.subTest(call.__name__, told=told):
                given = copy.deepcopy(told)
                first = call(*given)
                good = copy.deepcopy(first)
                spoil(first)
                self.assertEqual(given, told)
                second = call(*given)
                self.assertEqual(second, good)
                spoil(given)
                self.assertEqual(second, good)
                self.assertEqual(call(*copy.deepcopy(told)), good)

    def test_nothing_hangs_on_what_was_asked_ahead(self):
        goods = [copy.deepcopy(call(*copy.deepcopy(told))) for call, told in CALLS]
        for (call, told), good in reversed(list(zip(CALLS, goods))):
            self.assertEqual(call(*copy.deepcopy(told)), good)

    def test_objects(self):
        one = keeper.Keeper(4, 2, 1)
        for lot, worth in FAMILY:
            one.add(lot, worth)
        asks = [one.lots, one.few, one.paper] + [lambda lot=lot: one.parts(lot) for lot, worth in FAMILY]
        goods = [copy.deepcopy(ask()) for ask in asks]
        for turn in range(2):
            told = [ask() for ask in asks]
            self.assertEqual(told, goods)
            every = lists_in([ask() for ask in asks] + told)
            self.assertEqual(len({id(part) for part in every}), len(every))
            for part in told:
                spoil(part)
        self.assertEqual([ask() for ask in asks], goods)
        self.assertEqual(desk.Desk().say("names"), "-")


if __name__ == "__main__":
    unittest.main()
