import copy
import itertools
import unittest

from fewstand.errors import NoFamily, NoNames
from fewstand.lots import best, both, is_lot, look_at_family, misses, renamed
from tests.kinds import no_whole_numbers

FAMILY = [((0, 2), 5), ((1, 3), -4), ((0, 1), 7), ((2, 3), 5)]


class Lots(unittest.TestCase):
    def test_all_small_lots(self):
        for many in range(1, 5):
            for size in range(5):
                good = list(itertools.combinations(range(many), size))
                for length in range(5):
                    for thing in itertools.product(range(-1, 6), repeat=length):
                        self.assertIs(is_lot(many, size, thing), thing in good, (many, size, thing))

    def test_bounds(self):
        self.assertIs(is_lot(30, 8, tuple(range(22, 30))), True)
        self.assertIs(is_lot(30, 8, tuple(range(23, 31))), False)
        self.assertIs(is_lot(30, 1, (29,)), True)
        self.assertIs(is_lot(30, 1, (30,)), False)
        self.assertIs(is_lot(1, 1, (0,)), True)

    def test_size_0(self):
        self.assertIs(is_lot(4, 0, ()), True)
        self.assertIs(is_lot(4, 0, []), False)
        self.assertIs(is_lot(4, 0, (0,)), False)
        self.assertIs(is_lot(4, 0, None), False)

    def test_true_and_false_are_no_things(self):
        for thing in [(True,), (False,)]:
            self.assertIs(is_lot(4, 1, thing), False)
        for thing in [(0, True), (False, 1), (False, True), (True, 2)]:
            self.assertIs(is_lot(4, 2, thing), False)

    def test_other_kinds(self):
        for thing in [[0, 1], 1, 0, None, "01", "ab", b"\x00\x01", {0: 0, 1: 1}, {0, 1}, range(2), True,
                      (0, "1"), ("0", "1"), (0, None), (None, 1), (0, 1.0), (0, [1]), ((0,), (1,)), (0, {})]:
            with self.subTest(repr(thing)):
                self.assertIs(is_lot(4, 2, thing), False)

    def test_not_rising(self):
        for thing in [(1, 0), (1, 1), (0, 0), (3, 2), (-1, 0), (0, 4), (0, 10 ** 40), (-5, 40)]:
            with self.subTest(thing):
                self.assertIs(is_lot(4, 2, thing), False)

    def test_another_size(self):
        for thing in [(), (0,), (0, 1, 2)]:
            self.assertIs(is_lot(4, 2, thing), False)


class Families(unittest.TestCase):
    def refused_at(self, many, size, thing):
        with self.assertRaises(NoFamily) as caught:
            look_at_family(many, size, thing)
        return caught.exception.at

    def test_good_ones(self):
        lots = list(itertools.combinations(range(30), 2))
        for thing in [[], FAMILY, list(reversed(FAMILY)), [(lot, 1) for lot in lots[:200]],
                      [((0, 3), 10 ** 59), ((0, 1), -(10 ** 59)), ((0, 2), 0)]]:
            self.assertIsNone(look_at_family(30, 2, thing))
        self.assertIsNone(look_at_family(3, 0, [((), 5)]))
        self.assertIsNone(look_at_family(3, 0, []))
        self.assertIsNone(look_at_family(1, 1, [((0,), 0)]))

    def test_no_list_or_too_long(self):
        lots = list(itertools.combinations(range(30), 2))
        for thing in [None, True, 3, "ab", "", b"", (), tuple(FAMILY), {}, dict(FAMILY),
                      [(lot, 1) for lot in lots[:201]], ["wrong"] * 201]:
            with self.subTest(repr(thing)[:40]):
                self.assertIsNone(self.refused_at(30, 2, thing))

    def test_each_wrong_thing_by_its_number(self):
        wrong = [None, True, 0, "a", b"a", [], (), ((1, 2),), ((1, 2), 3, 4), [(1, 2), 3], {(1, 2): 3},
                 ([1, 2], 3), ((2, 1), 3), ((1, 1), 3), ((1,), 3), ((1, 2, 3), 3), ((1, 4), 3), ((-1, 2), 3),
                 ((1, True), 3), ((False, 2), 3), (None, 3), ("ab", 3), (3, (1, 2)), ("12", "3")]
        wrong += [((1, 2), worth) for worth in no_whole_numbers()]
        for thing in wrong:
            for at in range(len(FAMILY) + 1):
                with self.subTest(repr(thing), at=at):
                    self.assertEqual(self.refused_at(4, 2, FAMILY[:at] + [thing] + FAMILY[at:]), at)
                    self.assertEqual(self.refused_at(4, 2, FAMILY[:at] + [thing, None] + FAMILY[at:]), at)

    def test_of_two_alike_lots_the_one_farther_behind(self):
        self.assertEqual(self.refused_at(4, 2, FAMILY + [((0, 2), 5)]), 4)
        self.assertEqual(self.refused_at(4, 2, FAMILY + [((2, 3), 6), None]), 4)
        self.assertEqual(self.refused_at(4, 2, [((0, 1), 1), ((0, 1), 1), ((0, 1), 1)]), 1)
        self.assertEqual(self.refused_at(4, 2, [((0, 1), 1), None, ((0, 1), 1)]), 1)
        self.assertEqual(self.refused_at(4, 0, [((), 1), ((), 2)]), 1)

    def test_the_last_of_200(self):
        lots = list(itertools.combinations(range(30), 2))
        family = [(lot, 1) for lot in lots[:199]]
        self.assertEqual(self.refused_at(30, 2, family + [family[0]]), 199)

    def test_nothing_is_kept_or_changed(self):
        family = copy.deepcopy(FAMILY)
        look_at_family(4, 2, family)
        look_at_family(4, 2, family)
        self.assertEqual(family, FAMILY)


class MissesAndBest(unittest.TestCase):
    def test_misses(self):
        tuples = [some for size in range(5) for some in itertools.combinations(range(4), size)]
        for one in tuples:
            for other in tuples:
                with self.subTest(one=one, other=other):
                    self.assertIs(misses(one, other), len(set(one) & set(other)) == 0)

    def test_best_in_any_order(self):
        told = {(): 7, (0,): 5, (1,): 5, (2,): 7, (3,): 7, (0, 1): 5, (0, 2): -4, (0, 3): None, (1, 2): None,
                (1, 3): 5, (2, 3): 7, (0, 1, 2): None, (0, 1, 2, 3): None}
        for family in itertools.permutations(FAMILY):
            for strangers, worth in told.items():
                with self.subTest(strangers):
                    self.assertEqual(best(list(family), strangers), worth)

    def test_best_of_none(self):
        self.assertIsNone(best([], ()))
        self.assertIsNone(best([], (0, 1)))

    def test_best_of_the_lot_without_things(self):
        self.assertEqual(best([((), -3)], (0, 1, 2)), -3)

    def test_best_of_worths_below_0_and_of_0(self):
        self.assertEqual(best([((0,), -9), ((1,), -2)], ()), -2)
        self.assertEqual(best([((0,), 0), ((1,), -2)], ()), 0)
        self.assertEqual(best([((0,), 0)], (1,)), 0)


class Both(unittest.TestCase):
    def test_sorted_and_of_lots_in_both_the_greater_worth(self):
        one = [((2, 3), 1), ((0, 1), -5), ((0, 2), 4)]
        other = [((0, 2), 3), ((1, 2), 0), ((0, 1), -4)]
        good = [((0, 1), -4), ((0, 2), 4), ((1, 2), 0), ((2, 3), 1)]
        self.assertEqual(both(one, other), good)
        self.assertEqual(both(other, one), good)

    def test_of_none(self):
        self.assertEqual(both([], []), [])
        self.assertEqual(both(FAMILY, []), sorted(FAMILY))
        self.assertEqual(both([], FAMILY), sorted(FAMILY))
        self.assertEqual(both(FAMILY, FAMILY), sorted(FAMILY))
        self.assertEqual(both([((), 2)], [((), 3)]), [((), 3)])

    def test_great_families(self):
        lots = list(itertools.combinations(range(30), 2))
        one = [(lot, 1) for lot in lots[:200]]
        other = [(lot, 2) for lot in lots[100:300]]
        self.assertEqual(both(one, other), one[:100] + other)

    def test_own_lists(self):
        one, other = copy.deepcopy(FAMILY), [((1, 2), 3)]
        for families in [(one, other), (one, []), ([], one)]:
            before = copy.deepcopy(families)
            told = both(families[0], families[1])
            good = list(told)
            told.reverse()
            told.append(None)
            self.assertEqual(families, before)
            self.assertEqual(both(families[0], families[1]), good)
        told = both(one, other)
        one.clear()
        other.clear()
        self.assertEqual(told, sorted(FAMILY + [((1, 2), 3)]))


class Renamed(unittest.TestCase):
    def test_all_names(self):
        for names in itertools.permutations(range(4)):
            told = renamed(4, FAMILY, list(names))
            good = sorted((tuple(sorted(names[t] for t in lot)), worth) for lot, worth in FAMILY)
            self.assertEqual(told, good)
            self.assertIsNone(look_at_family(4, 2, told))

    def test_one_way(self):
        self.assertEqual(renamed(4, [((0, 1), 8), ((0, 3), 9)], [1, 2, 3, 0]), [((0, 1), 9), ((1, 2), 8)])

    def test_edges(self):
        self.assertEqual(renamed(3, [], [2, 0, 1]), [])
        self.assertEqual(renamed(3, [((), 6)], [2, 0, 1]), [((), 6)])
        self.assertEqual(renamed(1, [((0,), 6)], [0]), [((0,), 6)])

    def test_refused(self):
        for names in [None, True, 4, "0123", b"\x00\x01\x02\x03", (0, 1, 2, 3), {}, {0: 0, 1: 1, 2: 2, 3: 3},
                      range(4), [], [0, 1, 2], [0, 1, 2, 3, 4], [0, 1, 2, 2], [0, 1, 2, 4], [1, 2, 3, 4],
                      [-1, 0, 1, 2], [0, True, 2, 3], [False, 1, 2, 3], [0, 1, 2, "3"], ["0", "1", "2", "3"],
                      [0, 1, 2, None], [0, 1, 2, [3]], [0, 1, 2, 3.0], [(0,), 1, 2, 3], [0, 0, 0, 0]]:
            for family in [FAMILY, []]:
                with self.subTest(repr(names)), self.assertRaises(NoNames):
                    renamed(4, family, names)

    def test_own_lists(self):
        family, names = copy.deepcopy(FAMILY), [3, 1, 0, 2]
        told = renamed(4, family, names)
        good = list(told)
        told.clear()
        self.assertEqual(family, FAMILY)
        self.assertEqual(names, [3, 1, 0, 2])
        again = renamed(4, family, names)
        self.assertEqual(again, good)
        family.clear()
        names.reverse()
        self.assertEqual(again, good)


if __name__ == "__main__":
    unittest.main()
