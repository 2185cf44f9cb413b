import copy
import itertools
import math
import random
import unittest

from fewstand.errors import LotError, NoFamily, TooMany
from fewstand.few import few_of
from fewstand.lots import renamed
from fewstand.standing import stands
from fewstand.whole import fewest, how_many_stand, needed
from tests.kinds import some_family, stands_by_hand, things_of_other_kinds

FAMILY = [((2, 3), 4), ((0, 1), 5), ((1, 2), 7), ((0, 3), 4)]


def parts_that_stand(many, strangers, family):
    """All parts of the family that stand, by going through all strangers for each."""
    return [list(part) for count in range(len(family) + 1) for part in itertools.combinations(family, count)
            if stands_by_hand(many, strangers, family, part)]


class Whole(unittest.TestCase):
    def look(self, many, size, strangers, family):
        parts = parts_that_stand(many, strangers, family)
        wanted = needed(many, size, strangers, family)
        self.assertIsInstance(wanted, list)
        self.assertEqual(wanted, sorted(lot for lot, worth in family
                                        if not stands_by_hand(many, strangers, family, [one for one in family if one[0] != lot])))
        few = fewest(many, size, strangers, family)
        self.assertIsInstance(few, list)
        self.assertEqual(few, sorted(few))
        self.assertEqual(len(few), min(len(part) for part in parts))
        self.assertIn(few, [sorted(part) for part in parts])
        self.assertIs(stands(many, size, strangers, family, few), True)
        self.assertEqual(how_many_stand(many, size, strangers, family), len(parts))
        for part in parts:
            self.assertLessEqual(set(wanted), {lot for lot, worth in part})
        return len(wanted), len(few), len(parts)

    def test_by_hand(self):
        self.assertEqual(needed(4, 2, 0, FAMILY), [(1, 2)])
        self.assertEqual(fewest(4, 2, 0, FAMILY), [((1, 2), 7)])
        self.assertEqual(how_many_stand(4, 2, 0, FAMILY), 8)
        self.assertEqual(needed(4, 2, 1, FAMILY), [(0, 1), (1, 2)])
        self.assertEqual(how_many_stand(4, 2, 1, FAMILY), 3)
        self.assertEqual(len(fewest(4, 2, 1, FAMILY)), 3)
        self.assertEqual(needed(4, 2, 2, FAMILY), [(0, 1), (0, 3), (1, 2), (2, 3)])
        self.assertEqual(fewest(4, 2, 2, FAMILY), sorted(FAMILY))
        self.assertEqual(how_many_stand(4, 2, 2, FAMILY), 1)

    def test_against_all_parts(self):
        chance = random.Random(151)
        seen = set()
        for turn in range(120):
            many = chance.randint(1, 6)
            size, strangers = chance.randint(0, min(3, many)), chance.randint(0, 3)
            family = some_family(chance, many, size, chance.randint(0, 6), chance.choice([0, 1, 9]))
            with self.subTest(many=many, size=size, strangers=strangers, family=family):
                seen.add(self.look(many, size, strangers, family))
        self.assertGreater(len(seen), 15)

    def test_as_few_as_can_be_is_not_always_the_needed_ones_or_the_told_few(self):
        # With one stranger two single things of one worth are enough, whichever they are: none is needed.
        family = [((thing,), 3) for thing in range(5)]
        self.assertEqual(needed(5, 1, 1, family), [])
        self.assertEqual(len(fewest(5, 1, 1, family)), 2)
        self.assertEqual(how_many_stand(5, 1, 1, family), 32 - 1 - 5)
        self.assertEqual(len(few_of(5, 1, 1, family)), 2)

    def test_families_of_none_and_one(self):
        for many, size, strangers in [(1, 0, 0), (5, 2, 1), (30, 8, 0), (3, 1, 2)]:
            self.assertEqual(needed(many, size, strangers, []), [])
            self.assertEqual(fewest(many, size, strangers, []), [])
            self.assertEqual(how_many_stand(many, size, strangers, []), 1)
        self.assertEqual(needed(5, 2, 1, [((0, 1), -3)]), [(0, 1)])
        self.assertEqual(fewest(5, 2, 1, [((0, 1), -3)]), [((0, 1), -3)])
        self.assertEqual(how_many_stand(5, 2, 1, [((0, 1), -3)]), 1)
        self.assertEqual(needed(5, 0, 1, [((), 0)]), [()])

    def test_a_lot_that_no_strangers_leave_alone(self):
        # Whatever single stranger comes, another lot that is worth more misses it.
        family = [((0, 1), 9), ((2, 3), 8), ((0, 2), 1)]
        self.assertEqual(needed(4, 2, 1, family), [(0, 1), (2, 3)])
        self.assertEqual(how_many_stand(4, 2, 1, family), 2)

    def test_ten_lots_and_eleven(self):
        chance = random.Random(152)
        lots = list(itertools.combinations(range(6), 2))
        for turn in range(3):
            family = [(lot, chance.randint(0, 3)) for lot in chance.sample(lots, 11)]
            self.look(6, 2, 2, family[:10])
            for tell in [needed, fewest, how_many_stand]:
                with self.assertRaises(TooMany) as caught:
                    tell(6, 2, 2, family)
                self.assertIsInstance(caught.exception, LotError)
        self.assertEqual(how_many_stand(6, 2, 0, [(lot, 1) for lot in lots[:10]]), 1023)

    def test_two_hundred_lots_are_too_many(self):
        lots = list(itertools.combinations(range(30), 2))
        for tell in [needed, fewest, how_many_stand]:
            with self.assertRaises(TooMany):
                tell(30, 2, 0, [(lot, 1) for lot in lots[:200]])

    def test_strangers_of_two_thousand_and_more(self):
        family = [((0, 1), 5), ((1, 2), 7), ((28, 29), 7)]
        for many, strangers in [(30, 2), (22, 3), (11, 5), (10, 8), (8, 8), (5, 8)]:
            some = [one for one in family if max(one[0]) < many]
            self.look(many, 2, strangers, some)
        for many, strangers in [(30, 3), (23, 3), (16, 4), (12, 5), (11, 8), (30, 8), (13, 5)]:
            for tell in [needed, fewest, how_many_stand]:
                for some in [[], [((0, 1), 5)]]:
                    with self.subTest(many=many, strangers=strangers):
                        if self.all_strangers(many, strangers) > 2000:
                            with self.assertRaises(TooMany):
                                tell(many, 2, strangers, some)
                        else:
                            tell(many, 2, strangers, some)

    def all_strangers(self, many, strangers):
        return sum(math.comb(many, count) for count in range(strangers + 1))

    def test_the_edge_of_two_thousand(self):
        self.assertEqual(self.all_strangers(22, 3), 1794)
        self.assertEqual(self.all_strangers(23, 3), 2048)
        self.assertEqual(how_many_stand(22, 1, 3, [((0,), 1)]), 1)
        with self.assertRaises(TooMany):
            how_many_stand(23, 1, 3, [((0,), 1)])
        self.assertEqual(self.all_strangers(11, 7), 1816)
        self.assertEqual(self.all_strangers(11, 8), 1981)
        self.assertEqual(fewest(11, 1, 8, [((0,), 1)]), [((0,), 1)])
        self.assertEqual(self.all_strangers(12, 5), 1586)
        with self.assertRaises(TooMany):
            fewest(12, 1, 6, [((0,), 1)])

    def test_no_family_with_its_field_ahead_of_too_many(self):
        lots = list(itertools.combinations(range(6), 2))
        eleven = [(lot, 1) for lot in lots[:11]]
        told = [(thing, None) for thing in things_of_other_kinds() + [tuple(FAMILY), iter(FAMILY)]]
        told += [([thing], 0) for thing in things_of_other_kinds()]
        told += [(FAMILY + [one], 4) for one in [((0, 1), 5), ((1, 0), 5), ((0, 2), True), ((0, True), 1), ((0,), 1), [(0, 2), 1],
                                                 ((0, 30), 1), ((0, 2), 1, 1), ((0, 2),), None, ((0, 2), "1"), ((0, 2), 1.0)]]
        told += [(eleven + [((0, 1), 1)], 11), (eleven + [None, None], 11), ([None] + eleven, 0)]
        for family, at in told:
            for many, strangers in [(6, 1), (30, 1), (30, 3), (30, 8)]:
                for tell in [needed, fewest, how_many_stand]:
                    with self.subTest((repr(family), many, strangers)):
                        with self.assertRaises(NoFamily) as caught:
                            tell(many, 2, strangers, family)
                        self.assertEqual(caught.exception.at, at)

    def test_things_called_otherwise_and_in_another_order(self):
        chance = random.Random(153)
        for turn in range(30):
            many, strangers = chance.randint(3, 7), chance.randint(0, 3)
            family = some_family(chance, many, 2, 8, 2)
            names = chance.sample(range(many), many)
            other = renamed(many, family, names)
            chance.shuffle(other)
            self.assertEqual(how_many_stand(many, 2, strangers, family), how_many_stand(many, 2, strangers, other))
            self.assertEqual(len(fewest(many, 2, strangers, family)), len(fewest(many, 2, strangers, other)))
            called = sorted(tuple(sorted(names[thing] for thing in lot)) for lot in needed(many, 2, strangers, family))
            self.assertEqual(called, needed(many, 2, strangers, other))

    def test_needed_lots_are_in_the_told_few(self):
        chance = random.Random(154)
        for turn in range(40):
            many, strangers = chance.randint(3, 7), chance.randint(0, 3)
            family = some_family(chance, many, 2, 10, 3)
            few = few_of(many, 2, strangers, family)
            self.assertLessEqual(set(needed(many, 2, strangers, family)), {lot for lot, worth in few})
            self.assertLessEqual(len(fewest(many, 2, strangers, family)), len(few))

    def test_great_worths(self):
        family = [((0,), 10 ** 59), ((1,), 10 ** 59 - 1), ((2,), -(10 ** 59))]
        self.assertEqual(needed(3, 1, 1, family), [(0,), (1,)])

    def test_what_is_handed_in_stays_and_what_is_told_is_apart(self):
        family = copy.deepcopy(FAMILY)
        for tell in [needed, fewest]:
            good = copy.deepcopy(tell(4, 2, 1, family))
            told = tell(4, 2, 1, family)
            self.assertEqual(family, FAMILY)
            told.append(None)
            told[0] = 7
            self.assertEqual(tell(4, 2, 1, family), good)
            self.assertEqual(family, FAMILY)
        how_many_stand(4, 2, 1, family)
        self.assertEqual(family, FAMILY)
        told = fewest(4, 2, 2, family)
        family.clear()
        self.assertEqual(told, sorted(FAMILY))
        self.assertEqual(fewest(4, 2, 2, family), [])


if __name__ == "__main__":
    unittest.main()
