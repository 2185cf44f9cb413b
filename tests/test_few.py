import copy
import itertools
import math
import random
import unittest

from fewstand.errors import NoFamily, NoSize
from fewstand.few import few_of, ordered
from fewstand.lots import both, renamed
from fewstand.standing import stands
from tests.kinds import (least_prime, no_whole_numbers, rank, row_by_hand, some_family, stands_by_hand,
                         things_of_other_kinds, wrong_sizes)


def few_by_hand(many, size, strangers, family):
    """Those by which the rank grows, of the rows one behind the other."""
    prime = least_prime(many + strangers)
    order = sorted(sorted(family), key=lambda one: one[1], reverse=True)
    rows = [row_by_hand(many, size, strangers, lot) for lot, worth in order]
    return [one for at, one in enumerate(order) if rank(prime, rows[:at + 1]) > rank(prime, rows[:at])]


class Ordered(unittest.TestCase):
    def test_greater_worths_first_then_by_lots(self):
        family = [((0, 3), -2), ((1, 2), 5), ((0, 1), 5), ((0, 2), 0), ((2, 3), -2), ((1, 3), 6)]
        good = [((1, 3), 6), ((0, 1), 5), ((1, 2), 5), ((0, 2), 0), ((0, 3), -2), ((2, 3), -2)]
        for turn in itertools.permutations(family):
            self.assertEqual(ordered(list(turn)), good)

    def test_worths_all_alike_and_all_unlike(self):
        lots = list(itertools.combinations(range(5), 2))
        for worth in [-3, 0, 4, 10 ** 59, -(10 ** 59)]:
            self.assertEqual(ordered([(lot, worth) for lot in reversed(lots)]), [(lot, worth) for lot in lots])
        self.assertEqual(ordered([(lot, at - 4) for at, lot in enumerate(lots)]),
                         [(lot, at - 4) for at, lot in reversed(list(enumerate(lots)))])

    def test_as_tuples_are_sorted(self):
        self.assertEqual(ordered([((9, 10), 1), ((2, 11), 1), ((2, 9), 1)]), [((2, 9), 1), ((2, 11), 1), ((9, 10), 1)])

    def test_families_of_none_and_of_one(self):
        self.assertEqual(ordered([]), [])
        self.assertEqual(ordered([((), 7)]), [((), 7)])

    def test_own_lists(self):
        family = [((0,), 1), ((1,), 2)]
        told = ordered(family)
        self.assertEqual(family, [((0,), 1), ((1,), 2)])
        told.clear()
        self.assertEqual(ordered(family), [((1,), 2), ((0,), 1)])
        told = ordered([])
        told.append(None)
        self.assertEqual(ordered([]), [])


class FewOf(unittest.TestCase):
    def test_ordinary(self):
        family = [((0,), 3), ((1,), 3), ((2,), 9), ((3,), 1)]
        self.assertEqual(few_of(4, 1, 0, family), [((2,), 9)])
        self.assertEqual(few_of(4, 1, 1, family), [((2,), 9), ((0,), 3)])
        self.assertEqual(few_of(4, 1, 2, family), [((2,), 9), ((0,), 3), ((1,), 3)])
        self.assertEqual(few_of(4, 1, 3, family), [((2,), 9), ((0,), 3), ((1,), 3), ((3,), 1)])
        self.assertEqual(few_of(4, 1, 7, family), [((2,), 9), ((0,), 3), ((1,), 3), ((3,), 1)])

    def test_against_free_rows_and_all_strangers(self):
        chance = random.Random(12)
        for turn in range(150):
            many, size = chance.randint(1, 8), chance.randint(0, 3)
            strangers = chance.randint(0, 3)
            family = some_family(chance, many, size, chance.randint(0, 14), chance.choice([0, 1, 30]))
            with self.subTest(many=many, size=size, strangers=strangers, family=family):
                told = few_of(many, size, strangers, family)
                self.assertEqual(told, few_by_hand(many, size, strangers, family))
                self.assertTrue(stands_by_hand(many, strangers, family, told))
                self.assertIs(stands(many, size, strangers, family, told), True)
                self.assertLessEqual(len(told), math.comb(size + strangers, size))
                self.assertEqual(few_of(many, size, strangers, list(reversed(family))), told)

    def test_great_grounds(self):
        chance = random.Random(13)
        for many, size, strangers in [(30, 2, 2), (30, 6, 2), (29, 3, 2), (22, 3, 3), (15, 4, 4), (30, 8, 0), (30, 7, 1)]:
            lots = [tuple(sorted(chance.sample(range(many), size))) for turn in range(260)]
            lots = list(dict.fromkeys(lots))[:200]
            for worths in [0, 50]:
                family = [(lot, chance.randint(-worths, worths)) for lot in lots]
                with self.subTest(many=many, size=size, strangers=strangers, worths=worths):
                    told = few_of(many, size, strangers, family)
                    self.assertIs(stands(many, size, strangers, family, told), True)
                    self.assertLessEqual(len(told), math.comb(size + strangers, size))

    def test_the_few_against_free_rows_on_the_greatest_ground(self):
        family = some_family(random.Random(14), 30, 3, 40, 3)
        self.assertEqual(few_of(30, 3, 2, family), few_by_hand(30, 3, 2, family))

    def test_all_lots_of_p_and_q_things_are_all_told_and_needed(self):
        for size in range(5):
            for strangers in range(5 - size):
                for things in itertools.combinations(range(6), size + strangers):
                    for worth in [-1, 0, 8]:
                        family = [(lot, worth) for lot in itertools.combinations(things, size)]
                        told = few_of(6, size, strangers, family)
                        self.assertEqual(told, family)
                    for at in range(len(family)):
                        self.assertIs(stands(6, size, strangers, family, family[:at] + family[at + 1:]), False)

    def test_all_lots_of_eight_things(self):
        for size in range(9):
            family = [(lot, 5) for lot in itertools.combinations(range(8), size)]
            self.assertEqual(few_of(8, size, 8 - size, family), family)
            family = [(lot, 5) for lot in itertools.combinations(range(22, 30), size)]
            self.assertEqual(few_of(30, size, 8 - size, family), family)

    def test_never_more_than_the_choices(self):
        lots = list(itertools.combinations(range(30), 2))
        for strangers in range(7):
            self.assertEqual(len(few_of(30, 2, strangers, [(lot, 1) for lot in lots[:200]])),
                             math.comb(2 + strangers, 2))

    def test_families_of_none(self):
        for many in [1, 2, 30]:
            for size in range(9):
                for strangers in range(9 - size):
                    self.assertEqual(few_of(many, size, strangers, []), [])

    def test_sizes_and_strangers_of_0(self):
        self.assertEqual(few_of(4, 0, 0, [((), -3)]), [((), -3)])
        self.assertEqual(few_of(1, 0, 8, [((), 0)]), [((), 0)])
        self.assertEqual(few_of(4, 2, 0, [((0, 1), 1), ((1, 2), 2), ((2, 3), 2)]), [((1, 2), 2)])
        self.assertEqual(few_of(1, 1, 7, [((0,), 4)]), [((0,), 4)])
        self.assertEqual(few_of(1, 1, 0, [((0,), 4)]), [((0,), 4)])


class FewOfFew(unittest.TestCase):
    def test_few_of_few_stand(self):
        chance = random.Random(21)
        for turn in range(80):
            many, size, strangers = chance.randint(2, 9), chance.randint(0, 3), chance.randint(0, 3)
            family = some_family(chance, many, size, 30, 4)
            few = few_of(many, size, strangers, family)
            again = few_of(many, size, strangers, few)
            self.assertIs(stands(many, size, strangers, family, again), True)
            self.assertEqual(again, few)
            for less in range(strangers + 1):
                self.assertIs(stands(many, size, less, family, few_of(many, size, less, few)), True)

    def test_few_of_few_that_stand_otherwise(self):
        family = [((0,), 1), ((1,), 1), ((2,), 1), ((3,), 0)]
        for few in [family[1:3], family[:3], family[2:] + family[:1], family]:
            self.assertIs(stands(4, 1, 1, family, few), True)
            self.assertIs(stands(4, 1, 1, family, few_of(4, 1, 1, few)), True)

    def test_few_of_parts_together_stand(self):
        chance = random.Random(22)
        for turn in range(80):
            many, size, strangers = chance.randint(2, 9), chance.randint(0, 3), chance.randint(0, 3)
            family = some_family(chance, many, size, 30, 3)
            cut, more = chance.randint(0, len(family)), chance.randint(0, len(family))
            one, other = family[:max(cut, more)], family[min(cut, more):]
            if turn % 2:
                one = [(lot, worth - 1) for lot, worth in one]
            whole = both(one, other)
            together = both(few_of(many, size, strangers, one), few_of(many, size, strangers, other))
            # A lot in both may be left out where it is worth more, so bests are looked at, too.
            self.assertTrue(stands_by_hand(many, strangers, whole, together))
            self.assertTrue(stands_by_hand(many, strangers, whole, few_of(many, size, strangers, together)))
            if cut == more:
                self.assertIs(stands(many, size, strangers, whole, together), True)
                self.assertIs(stands(many, size, strangers, whole, few_of(many, size, strangers, together)), True)

    def test_things_called_otherwise(self):
        chance = random.Random(23)
        for turn in range(80):
            many, size, strangers = chance.randint(1, 8), chance.randint(0, 3), chance.randint(0, 3)
            family = some_family(chance, many, size, 20, 3)
            names = chance.sample(range(many), many)
            turned = renamed(many, family, names)
            few = few_of(many, size, strangers, family)
            self.assertIs(stands(many, size, strangers, turned, renamed(many, few, names)), True)
            told = few_of(many, size, strangers, turned)
            back = [names.index(name) for name in range(many)]
            self.assertIs(stands(many, size, strangers, family, renamed(many, told, back)), True)


class Refusals(unittest.TestCase):
    def test_no_size_also_ahead_of_no_family(self):
        for sizes in wrong_sizes():
            for family in [[], None, "ab", [None], [((0, 1), 3)], [((0, 1), True)]]:
                with self.subTest(repr(sizes), family=family), self.assertRaises(NoSize):
                    few_of(*sizes, family)

    def test_bounds_that_are_good(self):
        for sizes in [(1, 0, 0), (30, 0, 0), (30, 8, 0), (30, 0, 8), (1, 4, 4), (30, 1, 7)]:
            with self.subTest(sizes):
                self.assertEqual(few_of(*sizes, []), [])

    def test_no_family_and_its_field(self):
        good = [((0, 1), 3), ((1, 2), 4)]
        for thing in things_of_other_kinds() + [tuple(good), [((0, 1), 1)] * 201]:
            with self.subTest(repr(thing)[:40]), self.assertRaises(NoFamily) as caught:
                few_of(4, 2, 2, thing)
            self.assertIsNone(caught.exception.at)
        wrong = [((2, 3), worth) for worth in no_whole_numbers()]
        wrong += [((1, 0), 1), ((0, 4), 1), ((0,), 1), ((0, 1, 2), 1), ((0, True), 1), ([2, 3], 1), [(2, 3), 1],
                  ((2, 3),), ((2, 3), 1, 1), None, "ab", ((1, 1), 1), ((-1, 0), 1)]
        for thing in wrong:
            for at in range(3):
                with self.subTest(repr(thing), at=at), self.assertRaises(NoFamily) as caught:
                    few_of(4, 2, 2, good[:at] + [thing] + good[at:])
                self.assertEqual(caught.exception.at, at)
        with self.assertRaises(NoFamily) as caught:
            few_of(4, 2, 2, good + [((0, 1), 4)])
        self.assertEqual(caught.exception.at, 2)

    def test_200_lots_and_201(self):
        lots = list(itertools.combinations(range(30), 2))
        self.assertEqual(few_of(30, 2, 0, [(lot, at) for at, lot in enumerate(lots[:200])]), [(lots[199], 199)])
        with self.assertRaises(NoFamily) as caught:
            few_of(30, 2, 0, [(lot, 1) for lot in lots[:201]])
        self.assertIsNone(caught.exception.at)

    def test_own_lists(self):
        family = [((0,), 3), ((1,), 3), ((2,), 9)]
        before = copy.deepcopy(family)
        told = few_of(4, 1, 1, family)
        good = list(told)
        told.reverse()
        told.append(None)
        self.assertEqual(family, before)
        again = few_of(4, 1, 1, family)
        self.assertEqual(again, good)
        family.clear()
        self.assertEqual(again, good)
        few_of(4, 1, 1, []).append(None)
        self.assertEqual(few_of(4, 1, 1, []), [])


if __name__ == "__main__":
    unittest.main()
