import copy
import itertools
import random
import unittest

from fewstand.errors import LotError, NoPlan, NoWeb
from fewstand.trees import best_tree, tree_worth
from fewstand.ways import best_way
from tests.kinds import (full_web, greater, moved_web, no_whole_numbers, side_by_side, some_web,
                         things_of_other_kinds, trees_by_hand, wrong_webs)

WEB = (4, [(0, 1, 5), (0, 2, -4), (2, 0, 7), (2, 3, 1), (1, 0, 2), (1, 3, -9)])
STAR = [None, 0, 0]
CHAIN = [None, 0, 1]


def chain(size):
    return [None] + list(range(size - 1))


def star(size):
    return [None] + [0] * (size - 1)


def wrong_plans():
    """What is no plan, of every kind."""
    told = things_of_other_kinds() + [[], (None,), (None, 0), (None, 0, 1), [0], [0, 0], [False], [None, None],
                                      [None, 0, None], [[None]], ["None"]]
    told += [[None, thing] for thing in no_whole_numbers() + [1, 2, -1, 10 ** 40]]
    told += [[None, 0, thing] for thing in no_whole_numbers() + [2, 3, -1]]
    told += [[None, 0, 1, 3], [None, 0, 1, 4], [None, 1, 0], [None, 0, 0, 0, 5, 1], [None, False], [None, 0, True]]
    return told + [chain(8), star(8), chain(9), [None] * 8, [1, None], [None, 0, 0, 0, 0, 0, 7]]


class TreeWorth(unittest.TestCase):
    def test_by_hand(self):
        for plan, tree, worth in [(STAR, [0, 1, 2], 1), (STAR, [0, 2, 1], 1), (STAR, [2, 0, 3], 8), (CHAIN, [2, 0, 1], 12),
                                  (CHAIN, [0, 1, 3], -4), ([None], [3], 0), ([None], [0], 0), ([None, 0], [1, 3], -9),
                                  ([None, 0, 0, 2], [0, 1, 2, 3], -0 + 5 - 4 + 1), ([None, 0, 0, 1], [2, 0, 3, 1], 13)]:
            told = tree_worth(WEB, plan, tree)
            self.assertEqual(told, worth)
            self.assertIsInstance(told, int)

    def test_no_arc_or_the_other_way(self):
        for plan, thing in [(STAR, [0, 1, 3]), (STAR, [3, 1, 2]), (CHAIN, [1, 2, 0]), (CHAIN, [3, 2, 0]),
                            ([None, 0], [3, 2]), ([None, 0], [0, 3]), ([None, 0, 0, 1], [0, 2, 1, 1]), ([None, 0], [1, 2])]:
            self.assertIsNone(tree_worth(WEB, plan, thing))

    def test_a_place_twice(self):
        for plan, thing in [(STAR, [0, 1, 1]), (STAR, [0, 2, 2]), (CHAIN, [0, 1, 0]), ([None, 0], [0, 0]),
                            ([None, 0, 0, 2], [0, 1, 2, 0])]:
            self.assertIsNone(tree_worth(WEB, plan, thing))

    def test_too_few_and_too_many(self):
        for plan, thing in [(STAR, [0, 1]), (STAR, [0, 1, 2, 3]), (STAR, []), ([None], []), ([None], [0, 1]), (CHAIN, [2, 0]),
                            (CHAIN, [2, 0, 1, 3])]:
            self.assertIsNone(tree_worth(WEB, plan, thing))

    def test_places_beyond_the_web(self):
        for plan, thing in [([None], [4]), ([None], [-1]), (STAR, [0, 1, 4]), (STAR, [-4, 1, 2]), (STAR, [0, -3, 2]),
                            (CHAIN, [10 ** 40, 0, 1]), (CHAIN, [2, 0, -3])]:
            self.assertIsNone(tree_worth(WEB, plan, thing))

    def test_kinds_of_places(self):
        for thing in no_whole_numbers():
            with self.subTest(repr(thing)):
                self.assertIsNone(tree_worth(WEB, [None], [thing]))
                for tree in [[thing, 1, 2], [0, thing, 2], [0, 1, thing]]:
                    self.assertIsNone(tree_worth(WEB, STAR, tree))
        self.assertIsNone(tree_worth(WEB, STAR, [0, True, 2]))
        self.assertIsNone(tree_worth(WEB, STAR, [False, 1, 2]))

    def test_other_kinds(self):
        for thing in things_of_other_kinds() + [(0, 1, 2), "012", range(3), iter([0, 1, 2]), {0: 1, 1: 2, 2: 0}, [[0, 1, 2]]]:
            with self.subTest(repr(thing)):
                self.assertIsNone(tree_worth(WEB, STAR, thing))
                self.assertIsNone(tree_worth(WEB, [None], thing))

    def test_against_all_lists_of_small_webs(self):
        chance = random.Random(121)
        for turn in range(40):
            web = some_web(chance, chance.randint(1, 4), chance.randint(0, 12), 9)
            for plan in [[None], [None, 0], [None, 0, 0], [None, 0, 1], [None, 0, 0, 1], [None, 0, 1, 0], [None, 0, 0, 0]]:
                trees = trees_by_hand(web, plan)
                for row in itertools.product(range(-1, 5), repeat=len(plan)):
                    self.assertEqual(tree_worth(web, plan, list(row)), trees.get(row))

    def test_refusals_in_their_order(self):
        for plan in wrong_plans():
            for thing in [[0, 1, 2], [0], None, "abc", []]:
                with self.subTest((plan, thing)):
                    with self.assertRaises(NoPlan) as caught:
                        tree_worth(WEB, plan, thing)
                    self.assertIsInstance(caught.exception, LotError)
        for web in wrong_webs():
            for plan in [STAR, [None], [], None, [0], (None,), chain(8)]:
                with self.subTest((web, plan)):
                    with self.assertRaises(NoWeb):
                        tree_worth(web, plan, [0])
                    with self.assertRaises(NoWeb):
                        tree_worth(web, plan, None)

    def test_what_is_handed_in_stays(self):
        web, plan, tree = copy.deepcopy(WEB), list(STAR), [0, 1, 2]
        tree_worth(web, plan, tree)
        self.assertEqual((web, plan, tree), (WEB, [None, 0, 0], [0, 1, 2]))


class BestTree(unittest.TestCase):
    def look(self, web, plan):
        told = best_tree(web, plan)
        if told is None:
            return None
        self.assertIsInstance(told, tuple)
        worth, tree = told
        self.assertIsInstance(tree, list)
        self.assertEqual(len(tree), len(plan))
        self.assertEqual(tree_worth(web, plan, tree), worth)
        return worth

    def test_by_hand(self):
        self.assertEqual(self.look(WEB, [None]), 0)
        self.assertEqual(best_tree((1, []), [None]), (0, [0]))
        self.assertEqual(best_tree(WEB, [None, 0]), (7, [2, 0]))
        self.assertEqual(best_tree(WEB, CHAIN), (12, [2, 0, 1]))
        self.assertEqual(self.look(WEB, STAR), 8)
        self.assertEqual(best_tree(WEB, [None, 0, 0, 1]), (13, [2, 0, 3, 1]))
        self.assertIsNone(best_tree(WEB, star(4)))

    def test_all_plans_of_at_most_five_parts(self):
        chance = random.Random(122)
        plans = [[None] + list(rest) for size in range(5) for rest in itertools.product(*[range(at + 1) for at in range(size)])]
        self.assertEqual(len(plans), 1 + 1 + 2 + 6 + 24)
        seen, none = 0, 0
        for plan in plans:
            for turn in range(6):
                web = some_web(chance, chance.randint(len(plan), 7), chance.randint(4, 24), 9)
                good = max(trees_by_hand(web, plan).values(), default=None)
                with self.subTest(web=web, plan=plan):
                    self.assertEqual(self.look(web, plan), good)
                seen, none = seen + (good is not None), none + (good is None)
        self.assertGreater(seen, 60)
        self.assertGreater(none, 5)

    def test_plans_of_six_and_seven_parts(self):
        chance = random.Random(123)
        seen = 0
        plans = [[None] + [chance.randrange(at + 1) for at in range(size - 1)] for size in [6, 7] for turn in range(30)]
        plans += [[None, 0, 0, 1, 1, 2, 2], [None, 0, 0, 0, 1, 2, 3], [None, 0, 1, 2, 0, 4, 5], [None, 0, 1, 1, 1, 1, 1]]
        for plan in plans:
            web = some_web(chance, chance.randint(6, 9), chance.randint(15, 26), 9)
            good = max(trees_by_hand(web, plan).values(), default=None)
            with self.subTest(web=web, plan=plan):
                self.assertEqual(self.look(web, plan), good)
            seen += good is not None
        self.assertGreater(seen, 30)

    def test_a_chain_is_a_way(self):
        chance = random.Random(124)
        webs = [some_web(chance, chance.randint(1, 9), chance.randint(0, 40), 9) for turn in range(20)] + [full_web()]
        for web in webs:
            for size in range(1, 8):
                way = best_way(web, size)
                self.assertEqual(self.look(web, chain(size)), None if way is None else way[0])

    def test_a_star_has_the_best_arcs_of_a_place(self):
        chance = random.Random(125)
        for turn in range(20):
            web = some_web(chance, 12, 60, 50)
            for size in range(1, 8):
                gains = [sorted([worth for start, end, worth in web[1] if start == place]) for place in range(12)]
                found = [sum(some[len(some) - size + 1:]) for some in gains if len(some) >= size - 1]
                self.assertEqual(self.look(web, star(size)), max(found, default=None))

    def test_branches_that_want_the_same_places(self):
        # Each branch alone is best by place 2; only one of them can have it.
        web = (6, [(0, 1, 1), (0, 3, 1), (1, 2, 9), (3, 2, 9), (1, 4, 2), (3, 5, 3), (3, 4, 1)])
        self.assertEqual(best_tree(web, [None, 0, 0, 1, 2])[0], 14)

    def test_twelve_places_with_sixty_arcs(self):
        web = full_web()
        for plan in [[None, 0, 0, 1, 1], [None, 0, 0, 1, 2], [None, 0, 1, 0, 3]]:
            self.assertEqual(self.look(web, plan), max(trees_by_hand(web, plan).values()))
        for plan in [[None, 0, 0, 1, 1, 2, 2], [None, 0, 0, 0, 1, 2, 3], [None, 0, 0, 0, 0, 0, 1], [None, 0, 1, 1, 0, 2, 2]]:
            names = [(place * 5 + 3) % 12 for place in range(12)]
            self.assertEqual(self.look(web, plan), self.look(moved_web(web, names), plan))

    def test_parts_in_another_order(self):
        """The same tree by two plans."""
        chance = random.Random(126)
        for turn in range(15):
            web = some_web(chance, 8, 30, 9)
            for one, other in [([None, 0, 0, 1, 1], [None, 0, 0, 2, 2]), ([None, 0, 1, 0, 3, 3], [None, 0, 0, 1, 1, 2]),
                               ([None, 0, 1, 2, 0, 0, 4], [None, 0, 0, 0, 1, 2, 4])]:
                self.assertEqual(self.look(web, one), self.look(web, other))

    def test_worths_all_below_0(self):
        web = (6, [(start, end, -1 - start * start - 2 * end) for start, end in itertools.permutations(range(6), 2)])
        for plan in [[None], [None, 0], STAR, CHAIN, [None, 0, 0, 1, 2], star(6), chain(6)]:
            self.assertEqual(self.look(web, plan), max(trees_by_hand(web, plan).values()))
        self.assertIsNone(best_tree(web, star(7)))

    def test_none(self):
        for plan in [[None, 0], STAR, CHAIN, star(7), chain(7)]:
            for many in [1, 2, 12]:
                self.assertIsNone(best_tree((many, []), plan))
        self.assertIsNone(best_tree((3, [(0, 1, 5), (2, 1, 5)]), STAR))
        self.assertIsNone(best_tree((3, [(0, 1, 5), (1, 0, 5), (0, 2, 1)]), [None, 0, 1, 0]))

    def test_places_called_otherwise(self):
        chance = random.Random(127)
        for turn in range(25):
            many = chance.randint(2, 12)
            web = some_web(chance, many, chance.randint(1, 60), 9)
            plan = [None] + [chance.randrange(at + 1) for at in range(chance.randint(0, 6))]
            names = chance.sample(range(many), many)
            self.assertEqual(self.look(web, plan), self.look(moved_web(web, names), plan))

    def test_two_webs_side_by_side(self):
        chance = random.Random(128)
        for turn in range(40):
            one = some_web(chance, chance.randint(1, 6), chance.randint(0, 20), 9)
            other = some_web(chance, chance.randint(1, 6), chance.randint(0, 20), 9)
            plan = [None] + [chance.randrange(at + 1) for at in range(chance.randint(0, 5))]
            good = greater(self.look(one, plan), self.look(other, plan))
            self.assertEqual(self.look(side_by_side(one, other), plan), good)

    def test_great_worths(self):
        web = (3, [(0, 1, 10 ** 59), (0, 2, 10 ** 59), (2, 1, -(10 ** 59)), (1, 0, 10 ** 59 - 1)])
        self.assertEqual(self.look(web, STAR), 2 * 10 ** 59)
        self.assertEqual(best_tree(web, CHAIN), (2 * 10 ** 59 - 1, [1, 0, 2]))

    def test_refusals_in_their_order(self):
        for plan in wrong_plans():
            with self.subTest(plan):
                with self.assertRaises(NoPlan) as caught:
                    best_tree(WEB, plan)
                self.assertIsInstance(caught.exception, LotError)
                with self.assertRaises(NoPlan):
                    best_tree((1, []), plan)
        for web in wrong_webs():
            for plan in [STAR, [None], [], None, [0], (None,), chain(8)]:
                with self.subTest((web, plan)):
                    with self.assertRaises(NoWeb):
                        best_tree(web, plan)

    def test_what_is_handed_in_stays_and_what_is_told_is_apart(self):
        web, plan = copy.deepcopy(WEB), list(CHAIN)
        told = best_tree(web, plan)
        self.assertEqual((web, plan), (WEB, [None, 0, 1]))
        told[1].append(9)
        told[1][0] = None
        self.assertEqual(best_tree(web, plan), (12, [2, 0, 1]))
        other = best_tree(web, plan)
        web[1].clear()
        plan.clear()
        self.assertEqual(other, (12, [2, 0, 1]))
        self.assertIsNone(best_tree(web, CHAIN))


if __name__ == "__main__":
    unittest.main()
