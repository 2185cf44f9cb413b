import copy
import itertools
import random
import unittest

from fewstand.errors import LotError, NoFamily, NoSize
from fewstand.few import few_of
from fewstand.lots import both, renamed
from fewstand.packings import best_packing, packing_worth
from tests.kinds import no_whole_numbers, packings_by_hand, some_family, things_of_other_kinds

FAMILY = [((2, 3), 4), ((0, 1), 5), ((1, 2), 7), ((4, 5), -3), ((0, 5), 6)]


class PackingWorth(unittest.TestCase):
    def test_by_hand(self):
        for packing, worth in [([], 0), ([(0, 1)], 5), ([(4, 5)], -3), ([(0, 1), (2, 3)], 9), ([(0, 5), (1, 2)], 13),
                               ([(0, 1), (2, 3), (4, 5)], 6), ([(1, 2), (4, 5)], 4)]:
            told = packing_worth(FAMILY, packing)
            self.assertEqual(told, worth)
            self.assertIsInstance(told, int)

    def test_not_sorted(self):
        for thing in [[(2, 3), (0, 1)], [(1, 2), (0, 5)], [(0, 1), (4, 5), (2, 3)], [(4, 5), (2, 3), (0, 1)]]:
            self.assertIsNone(packing_worth(FAMILY, thing))

    def test_a_lot_twice(self):
        for thing in [[(0, 1), (0, 1)], [(0, 1), (0, 1), (2, 3)], [(0, 1), (2, 3), (2, 3)], [(0, 1), (2, 3), (0, 1)]]:
            self.assertIsNone(packing_worth(FAMILY, thing))

    def test_two_that_meet(self):
        for thing in [[(0, 1), (1, 2)], [(0, 1), (0, 5)], [(0, 5), (4, 5)], [(0, 5), (2, 3), (4, 5)], [(1, 2), (2, 3)],
                      [(0, 1), (1, 2), (4, 5)]]:
            self.assertIsNone(packing_worth(FAMILY, thing))

    def test_lots_that_are_not_the_familys(self):
        for lot in [(0, 2), (1, 0), (0,), (), (0, 1, 2), (6, 7), (-1, 0), (3, 2), ((0, 1), 5)]:
            self.assertIsNone(packing_worth(FAMILY, [lot]))
            self.assertIsNone(packing_worth(FAMILY, sorted([lot, (2, 3)], key=repr)))
        self.assertIsNone(packing_worth([], [()]))
        self.assertIsNone(packing_worth([], [(0, 1)]))

    def test_kinds_of_things(self):
        for thing in no_whole_numbers():
            with self.subTest(repr(thing)):
                for lot in [(thing, 1), (0, thing), (thing,), (1, thing), (thing, thing)]:
                    self.assertIsNone(packing_worth(FAMILY, [lot]))
                    self.assertIsNone(packing_worth(FAMILY, [lot, (2, 3)]))
                    self.assertIsNone(packing_worth(FAMILY, [(0, 1), lot]))
        self.assertIsNone(packing_worth(FAMILY, [(0, True)]))
        self.assertIsNone(packing_worth(FAMILY, [(False, 1)]))
        self.assertIsNone(packing_worth(FAMILY, [(False, 1), (2, 3)]))
        self.assertIsNone(packing_worth(FAMILY, [(0, 1), (2, 3.0)]))

    def test_kinds_of_lots_and_lists(self):
        for thing in things_of_other_kinds():
            with self.subTest(repr(thing)):
                self.assertIsNone(packing_worth(FAMILY, thing))
                self.assertIsNone(packing_worth(FAMILY, [thing]))
                self.assertIsNone(packing_worth(FAMILY, [(0, 1), thing]))
        for thing in [((0, 1), (2, 3)), ((0, 1),), (0, 1), [0, 1], [[0, 1]], [[0, 1], [2, 3]], "01", {(0, 1): 5}, [None],
                      iter([(0, 1)]), [((0, 1), 5)], (9, [(0, 1), (2, 3)]), {(0, 1)}]:
            with self.subTest(repr(thing)):
                self.assertIsNone(packing_worth(FAMILY, thing))

    def test_lots_without_things(self):
        family = [((), 5)]
        self.assertEqual(packing_worth(family, []), 0)
        self.assertEqual(packing_worth(family, [()]), 5)
        self.assertIsNone(packing_worth(family, [(), ()]))
        self.assertIsNone(packing_worth(family, [(0,)]))

    def test_the_family_of_none(self):
        self.assertEqual(packing_worth([], []), 0)

    def test_more_than_eight_lots(self):
        family = [((thing,), thing - 4) for thing in range(30)]
        for count in [7, 8, 9, 20, 30]:
            packing = [(thing,) for thing in range(30 - count, 30)]
            self.assertEqual(packing_worth(family, packing), sum(thing - 4 for thing in range(30 - count, 30)))
        family = [((3 * at, 3 * at + 1, 3 * at + 2), at) for at in range(10)]
        self.assertEqual(packing_worth(family, sorted([lot for lot, worth in family])), 45)

    def test_against_all_lists_of_small_families(self):
        chance = random.Random(131)
        for turn in range(30):
            family = some_family(chance, 5, chance.randint(1, 2), 6, 9)
            lots = [lot for lot, worth in family] + [(7,), (0, 9)]
            for count in range(4):
                packings = packings_by_hand(family, count)
                for row in itertools.product(lots, repeat=count):
                    self.assertEqual(packing_worth(family, list(row)), packings.get(row))

    def test_great_worths(self):
        self.assertEqual(packing_worth([((0,), 10 ** 59), ((1,), 10 ** 59)], [(0,), (1,)]), 2 * 10 ** 59)

    def test_what_is_handed_in_stays(self):
        family, packing = copy.deepcopy(FAMILY), [(0, 1), (2, 3)]
        packing_worth(family, packing)
        self.assertEqual((family, packing), (FAMILY, [(0, 1), (2, 3)]))


class BestPacking(unittest.TestCase):
    def look(self, many, size, family, count):
        told = best_packing(many, size, family, count)
        if told is None:
            return None
        self.assertIsInstance(told, tuple)
        worth, packing = told
        self.assertIsInstance(packing, list)
        self.assertEqual(len(packing), count)
        self.assertEqual(packing_worth(family, packing), worth)
        return worth

    def by_hand(self, family, count):
        return max(packings_by_hand(family, count).values(), default=None)

    def test_by_hand(self):
        self.assertEqual(best_packing(6, 2, FAMILY, 0), (0, []))
        self.assertEqual(best_packing(6, 2, FAMILY, 1), (7, [(1, 2)]))
        self.assertEqual(best_packing(6, 2, FAMILY, 2), (13, [(0, 5), (1, 2)]))
        self.assertEqual(best_packing(6, 2, FAMILY, 3), (6, [(0, 1), (2, 3), (4, 5)]))
        self.assertIsNone(best_packing(6, 2, FAMILY, 4))

    def test_against_all_packings(self):
        chance = random.Random(132)
        seen, none = 0, 0
        for turn in range(80):
            size = chance.randint(1, 4)
            many = chance.randint(size, 11)
            family = some_family(chance, many, size, chance.randint(0, 14), chance.choice([1, 9]))
            for count in range(8 // size + 1):
                good = self.by_hand(family, count)
                with self.subTest(many=many, family=family, count=count):
                    self.assertEqual(self.look(many, size, family, count), good)
                seen, none = seen + (good is not None and count > 1), none + (good is None)
        self.assertGreater(seen, 50)
        self.assertGreater(none, 50)

    def test_single_things(self):
        chance = random.Random(133)
        for many in [1, 7, 8, 9, 30]:
            family = some_family(chance, many, 1, 30, 99)
            worths = sorted([worth for lot, worth in family], reverse=True)
            for count in range(9):
                good = sum(worths[:count]) if count <= many else None
                self.assertEqual(self.look(many, 1, family, count), good)

    def test_lots_without_things(self):
        for many in [1, 30]:
            self.assertEqual(best_packing(many, 0, [((), -5)], 0), (0, []))
            self.assertEqual(best_packing(many, 0, [((), -5)], 1), (-5, [()]))
            self.assertEqual(best_packing(many, 0, [], 0), (0, []))
            for count in range(2, 9):
                self.assertIsNone(best_packing(many, 0, [((), 5)], count))
            for count in range(1, 9):
                self.assertIsNone(best_packing(many, 0, [], count))

    def test_the_family_of_none(self):
        for size in range(9):
            self.assertEqual(best_packing(9, size, [], 0), (0, []))
            for count in range(1, 9 if size == 0 else 8 // size + 1):
                self.assertIsNone(best_packing(9, size, [], count))

    def test_packings_of_none_whatever_the_family(self):
        chance = random.Random(134)
        for size in range(9):
            family = some_family(chance, 10, size, 20, 9)
            self.assertEqual(best_packing(10, size, family, 0), (0, []))

    def test_worths_all_below_0(self):
        family = [(lot, -1 - sum(lot)) for lot in itertools.combinations(range(7), 2)]
        for count in range(4):
            self.assertEqual(self.look(7, 2, family, count), self.by_hand(family, count))

    def test_the_greedy_one_is_not_the_best(self):
        family = [((1, 2), 10), ((0, 1), 9), ((2, 3), 9), ((4, 5), 0)]
        self.assertEqual(best_packing(6, 2, family, 2), (18, [(0, 1), (2, 3)]))
        self.assertEqual(best_packing(6, 2, family, 3), (18, [(0, 1), (2, 3), (4, 5)]))

    def test_two_hundred_lots(self):
        chance = random.Random(135)
        for many, size, count in [(30, 2, 2), (30, 2, 3), (21, 2, 3), (30, 4, 2), (12, 3, 2)]:
            family = some_family(chance, many, size, 200, 999)
            self.assertEqual(len(family), 200)
            self.assertEqual(self.look(many, size, family, count), self.pruned(family, count))

    def pruned(self, family, count):
        """The best worth, by going through the packings in the order of worths, and leaving those that can't be best."""
        rows = sorted(family, key=lambda one: -one[1])
        best = [None]

        def go(at, left, used, worth):
            if left == 0:
                best[0] = worth if best[0] is None else max(best[0], worth)
                return
            for number in range(at, len(rows)):
                lot, more = rows[number]
                if best[0] is not None and worth + left * more <= best[0]:
                    return
                if not used & set(lot):
                    go(number + 1, left - 1, used | set(lot), worth + more)

        go(0, count, set(), 0)
        return best[0]

    def test_many_lots_that_come_together_to_many_sets(self):
        chance = random.Random(136)
        for turn in range(3):
            # One thing of each lot is from a small part of the ground, so that few lots miss one another.
            lots = [(one, other) for one in range(6) for other in range(6, 30)]
            family = [(lot, chance.randint(-50, 50)) for lot in chance.sample(lots, 140)]
            self.assertEqual(self.look(30, 2, family, 4), self.pruned(family, 4))
            family = some_family(chance, 12, 2, 66, 30)
            self.assertEqual(self.look(12, 2, family, 4), self.pruned(family, 4))

    def test_counts_at_the_edge(self):
        family = {size: [(tuple(range(at, at + size)), at) for at in range(0, 25 - size, size)] for size in range(1, 9)}
        for size in range(1, 9):
            for count in range(10):
                with self.subTest(size=size, count=count):
                    if count * size <= 8 and count <= 8:
                        self.assertIsNotNone(self.look(30, size, family[size], count))
                    else:
                        with self.assertRaises(NoSize):
                            best_packing(30, size, family[size], count)
        self.assertIsNone(best_packing(5, 0, [], 8))
        with self.assertRaises(NoSize):
            best_packing(5, 0, [], 9)

    def refused_size(self, many, size, family, count):
        with self.assertRaises(NoSize) as caught:
            best_packing(many, size, family, count)
        self.assertIsInstance(caught.exception, LotError)

    def test_no_size_ahead_of_no_family(self):
        for family in [FAMILY, [], None, [None], (), [((0, 1), 5), ((0, 1), 6)], [((0, 1), True)]]:
            for thing in no_whole_numbers():
                with self.subTest((repr(thing), family)):
                    self.refused_size(thing, 2, family, 2)
                    self.refused_size(6, thing, family, 2)
                    self.refused_size(6, 2, family, thing)
            for many in [0, -1, 31, 32, 10 ** 40]:
                self.refused_size(many, 2, family, 2)
            for size in [-1, 9, 10, 10 ** 40, -(10 ** 40)]:
                self.refused_size(6, size, family, 0)
                self.refused_size(6, size, family, 1)
            for count in [-1, 5, 8, 9, 10 ** 40, -(10 ** 40)]:
                self.refused_size(6, 2, family, count)
            for count in [-1, 9, 10]:
                self.refused_size(6, 0, family, count)
                self.refused_size(6, 1, family, count)
            for many, size, count in [(0, 9, 9), (None, None, None), (6, 3, 3), (6, 4, 3), (6, 5, 2), (6, 8, 2), (6, -2, -2),
                                      (6, -1, 1), (6, 1, -1)]:
                self.refused_size(many, size, family, count)

    def test_no_family_with_its_field(self):
        lots = list(itertools.combinations(range(30), 2))
        for family, at in [(None, None), ((), None), (tuple(FAMILY), None), ({}, None), ("", None), ([None], 0),
                           ([((0, 1), 5), ((1, 0), 5)], 1), ([((0, 1), 5), ((0, 1), 6)], 1), ([((0, 1), True)], 0),
                           ([((0, 6), 1)], 0), (FAMILY + [((0,), 1)], 5), (FAMILY + [[(0, 2), 1]], 5),
                           (FAMILY + [((0, True), 1)], 5), (FAMILY + [((0, 2, 3), 1), None], 5), (5, None)]:
            for count in [0, 1, 2, 4]:
                with self.subTest((family, count)):
                    with self.assertRaises(NoFamily) as caught:
                        best_packing(6, 2, family, count)
                    self.assertEqual(caught.exception.at, at)
        with self.assertRaises(NoFamily) as caught:
            best_packing(30, 2, [(lot, 1) for lot in lots[:201]], 0)
        self.assertIsNone(caught.exception.at)
        self.assertEqual(self.look(30, 2, [(lot, 1) for lot in lots[:200]], 4), 4)

    def test_of_the_told_few(self):
        """Packings of the few that stands, where the other lots are the strangers, are worth as much."""
        chance = random.Random(137)
        for turn in range(40):
            size = chance.randint(1, 4)
            many = chance.randint(size, 12)
            family = some_family(chance, many, size, chance.randint(0, 60), 9)
            for count in range(1, 8 // size + 1):
                few = few_of(many, size, (count - 1) * size, family)
                self.assertEqual(self.look(many, size, few, count), self.look(many, size, family, count))

    def test_things_called_otherwise(self):
        chance = random.Random(138)
        for turn in range(40):
            size = chance.randint(0, 4)
            many = chance.randint(max(1, size), 14)
            family = some_family(chance, many, size, chance.randint(0, 60), 9)
            names = chance.sample(range(many), many)
            other = renamed(many, family, names)
            for count in range(8 // max(1, size) + 1):
                self.assertEqual(self.look(many, size, family, count), self.look(many, size, other, count))

    def test_in_another_order_and_with_both_together(self):
        chance = random.Random(139)
        for turn in range(30):
            one, other = some_family(chance, 9, 2, 12, 9), some_family(chance, 9, 2, 12, 9)
            mixed = both(one, other)
            for count in range(5):
                good = self.by_hand(mixed, count)
                self.assertEqual(self.look(9, 2, chance.sample(mixed, len(mixed)), count), good)

    def test_great_worths(self):
        family = [((0,), 10 ** 59), ((1,), 10 ** 59), ((2,), -(10 ** 59))]
        self.assertEqual([self.look(3, 1, family, count) for count in range(5)], [0, 10 ** 59, 2 * 10 ** 59, 10 ** 59, None])

    def test_what_is_handed_in_stays_and_what_is_told_is_apart(self):
        family = copy.deepcopy(FAMILY)
        told = best_packing(6, 2, family, 2)
        self.assertEqual(family, FAMILY)
        told[1].append(None)
        told[1][0] = 7
        self.assertEqual(best_packing(6, 2, family, 2), (13, [(0, 5), (1, 2)]))
        none = best_packing(6, 2, family, 0)
        none[1].append(None)
        self.assertEqual(best_packing(6, 2, family, 0), (0, []))
        other = best_packing(6, 2, family, 2)
        family.clear()
        self.assertEqual(other, (13, [(0, 5), (1, 2)]))
        self.assertIsNone(best_packing(6, 2, family, 2))


if __name__ == "__main__":
    unittest.main()
