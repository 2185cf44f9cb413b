import copy
import itertools
import random
import unittest

from fewstand.errors import NoFamily, TooMany
from fewstand.standing import stands
from tests.kinds import no_whole_numbers, stands_by_hand


class Standing(unittest.TestCase):
    def test_ordinary(self):
        family = [((0,), 3), ((1,), 3), ((2,), 2), ((3,), 1)]
        self.assertIs(stands(4, 1, 0, family, [((0,), 3)]), True)
        self.assertIs(stands(4, 1, 0, family, [((1,), 3)]), True)
        self.assertIs(stands(4, 1, 0, family, [((2,), 2)]), False)
        self.assertIs(stands(4, 1, 1, family, [((1,), 3), ((0,), 3)]), True)
        self.assertIs(stands(4, 1, 1, family, [((0,), 3), ((2,), 2)]), False)
        self.assertIs(stands(4, 1, 2, family, family[:3]), True)
        self.assertIs(stands(4, 1, 2, family, family[:2]), False)
        self.assertIs(stands(4, 1, 3, family, family[:3]), False)
        self.assertIs(stands(4, 1, 3, family, family), True)

    def test_fewer_strangers_count_too(self):
        # Whatever one stranger comes, no lot misses it; but none may come, too.
        self.assertIs(stands(2, 2, 1, [((0, 1), 5)], []), False)
        self.assertIs(stands(2, 2, 1, [((0, 1), 5)], [((0, 1), 5)]), True)

    def test_families_of_none_and_size_0(self):
        self.assertIs(stands(4, 2, 2, [], []), True)
        self.assertIs(stands(4, 2, 2, [], [((0, 1), 1)]), False)
        self.assertIs(stands(4, 0, 8, [((), 1)], []), False)
        self.assertIs(stands(4, 0, 8, [((), 1)], [((), 1)]), True)

    def test_more_strangers_than_things(self):
        self.assertIs(stands(2, 1, 8, [((0,), 1), ((1,), 2)], [((1,), 2)]), False)
        self.assertIs(stands(2, 1, 8, [((0,), 1), ((1,), 2)], [((1,), 2), ((0,), 1)]), True)

    def test_all_parts_in_any_order(self):
        chance = random.Random(7)
        for turn in range(60):
            many, size, strangers = chance.randint(1, 6), chance.randint(0, 3), chance.randint(0, 4)
            lots = list(itertools.combinations(range(many), size))
            lots = chance.sample(lots, min(len(lots), 6))
            family = [(lot, chance.randint(-2, 2)) for lot in lots]
            for count in range(len(family) + 1):
                for few in itertools.combinations(family, count):
                    few = chance.sample(few, count)
                    good = stands_by_hand(many, strangers, family, few)
                    self.assertIs(stands(many, size, strangers, family, few), good)


class NoFews(unittest.TestCase):
    FAMILY = [((0, 1), 1), ((0, 2), 1), ((1, 2), 0), ((2, 3), 7)]

    def test_the_whole_family_stands_in_any_order(self):
        for few in itertools.permutations(self.FAMILY):
            self.assertIs(stands(4, 2, 2, self.FAMILY, list(few)), True)

    def test_things_that_are_no_few(self):
        wrong = [None, True, False, 0, 1, "", "ab", b"", {}, {(0, 1): 1}, (), tuple(self.FAMILY),
                 self.FAMILY + [((0, 1), 2)], self.FAMILY + [((0, 3), 1)], self.FAMILY + [((0, 1), 1)],
                 self.FAMILY + [((2, 3), 7)], [self.FAMILY]]
        for thing in wrong:
            with self.subTest(repr(thing)):
                self.assertIs(stands(4, 2, 2, self.FAMILY, thing), False)

    def test_each_wrong_thing_in_it(self):
        wrong = [None, True, 1, "a", b"a", [], (), {}, ((0, 1),), ((0, 1), 1, 1), [(0, 1), 1], ([0, 1], 1),
                 ((0, 1), 2), ((0, 1), True), ((0, True), 1), ((False, 1), 1), ((1, 0), 1), ((0,), 1),
                 ((0, 1.0), 1), ((0, 1), 1.0), ((0, [1]), 1), ((0, 5), 1), (0, 1), ("01", 1)]
        for thing in wrong:
            with self.subTest(repr(thing)):
                self.assertIs(stands(4, 2, 2, self.FAMILY, [thing] + self.FAMILY[1:]), False)
                self.assertIs(stands(4, 2, 2, self.FAMILY, self.FAMILY + [thing]), False)

    def test_false_is_no_0(self):
        few = [((0, 1), 1), ((0, 2), 1), ((1, 2), False), ((2, 3), 7)]
        self.assertIs(stands(4, 2, 2, self.FAMILY, few), False)

    def test_things_that_would_change_no_best(self):
        family = [((0,), 5), ((1,), 1), ((2,), 0)]
        for good in [[], [((1,), 1)], [((2,), 0), ((1,), 1)]]:
            self.assertIs(stands(4, 1, 0, family, family[:1] + good), True)
        for thing in [((0,), 5), ((1,), 0), ((1,), -1), ((1,), 2), ((3,), 1), ((4,), 1), ((1,), True), ((2,), False),
                      ((True,), 1), ([1], 1), [(1,), 1], ((1,), 1, 1), ((1,),), ((1,), None), ((1,), 1.0), None]:
            with self.subTest(repr(thing)):
                self.assertIs(stands(4, 1, 0, family, [family[0], thing]), False)
                self.assertIs(stands(4, 1, 0, family, [thing, family[0]]), False)


class Refusals(unittest.TestCase):
    def test_no_family(self):
        for family, at in [(None, None), ((), None), ("", None), ({}, None), ([((0,), 1)] * 201, None),
                           ([None], 0), ([((0,), 1), ((0,), 2)], 1), ([((0,), 1), ((1,), True)], 1),
                           ([((0,), 1), ((1, 2), 1)], 1), ([((4,), 1)], 0)]:
            with self.subTest(repr(family)[:40]), self.assertRaises(NoFamily) as caught:
                stands(4, 1, 1, family, [])
            self.assertEqual(caught.exception.at, at)
        for worth in no_whole_numbers():
            with self.assertRaises(NoFamily):
                stands(4, 1, 1, [((0,), worth)], [])

    def test_no_family_ahead_of_too_many(self):
        with self.assertRaises(NoFamily):
            stands(30, 1, 8, None, [])
        with self.assertRaises(NoFamily) as caught:
            stands(16, 1, 4, [((0,), 1), ((16,), 1)], [])
        self.assertEqual(caught.exception.at, 1)

    def test_too_many_whatever_the_few(self):
        for thing in [None, [], [((0,), 1)], "ab"]:
            with self.subTest(repr(thing)), self.assertRaises(TooMany):
                stands(30, 1, 8, [((0,), 1)], thing)
        with self.assertRaises(TooMany):
            stands(30, 1, 8, [], [])

    def test_the_bound(self):
        family = [((0,), 1), ((1,), 2)]
        for many, strangers in [(15, 4), (11, 8), (30, 2), (22, 3), (12, 5), (10, 8)]:
            with self.subTest(many=many, strangers=strangers):
                self.assertIs(stands(many, 1, strangers, family, family), True)
                self.assertIs(stands(many, 1, strangers, family, family[:1]), False)
        for many, strangers in [(16, 4), (12, 8), (30, 3), (23, 3), (13, 5), (13, 6)]:
            with self.subTest(many=many, strangers=strangers), self.assertRaises(TooMany):
                stands(many, 1, strangers, family, family)

    def test_nothing_is_changed(self):
        family, few = [((1,), 2), ((0,), 1), ((2,), 0)], [((0,), 1), ((1,), 2)]
        before = copy.deepcopy((family, few))
        self.assertIs(stands(3, 1, 1, family, few), True)
        self.assertIs(stands(3, 1, 2, family, few), False)
        self.assertEqual((family, few), before)


if __name__ == "__main__":
    unittest.main()
