import copy
import itertools
import math
import random
import unittest

from fewstand.errors import NoPairs
from fewstand.partners import is_row, longest_row
from tests.kinds import no_whole_numbers, things_of_other_kinds


def is_row_by_hand(pairs):
    for at, (one, other) in enumerate(pairs):
        if set(one) & set(other):
            return False
        if not all(set(one) & set(partner) for late, partner in pairs[at + 1:]):
            return False
    return True


def longest_by_hand(pairs):
    """By going through all orders of all of them, of all but one, and so on."""
    for count in range(len(pairs), -1, -1):
        for some in itertools.permutations(pairs, count):
            if is_row_by_hand(some):
                return count


def some_pairs(chance, many, size, strangers, count):
    return [(tuple(sorted(chance.sample(range(many), size))),
             tuple(sorted(chance.sample(range(many), chance.randint(0, min(many, strangers))))))
            for turn in range(count)]


def whole_row(size, strangers):
    """All lots of so many things, each with the things left: all miss their own and meet all others."""
    things = range(size + strangers)
    return [(lot, tuple(thing for thing in things if thing not in lot)) for lot in itertools.combinations(things, size)]


WRONG_PAIRS = [None, True, 1, "ab", b"ab", [], (), {}, ((0, 1),), ((0, 1), (2,), (3,)), [(0, 1), (2,)], ([0, 1], (2,)),
               ((0, 1), [2]), ((0, 1), [2, 3]), ((1, 0), (2,)), ((0, 0), (2,)), ((0,), (2,)), ((0, 1, 2), (3,)),
               ((), (2,)), ((0, 5), (2,)), ((-1, 0), (2,)), ((0, True), (2,)), ((False, 1), (2,)), ((0, 1), (3, 2)),
               ((0, 1), (2, 2)), ((0, 1), (2, 3, 4)), ((0, 1), (5,)), ((0, 1), (-1,)), ((2, 3), (True,)),
               ((2, 3), (False, 1)), ((0, 1), None), (None, (2,)), ((0, 1), 2), ((0, 1), "2"), ("01", (2,)),
               ((0, 1), ("2",)), ((0, 1), (None,)), ((0, 1), ((2,),)), ((0, 1), (2.0,)), ((0, 1.0), (2,)),
               ((0, 1), {}), ((0, 1), ([2],)), ({0: 0, 1: 1}, (2,)), ((0, 1), frozenset([2]))]


class IsRow(unittest.TestCase):
    def test_ordinary(self):
        row = [((0, 1), (2, 3)), ((0, 2), (1, 3)), ((3, 4), (0,))]
        self.assertIs(is_row(5, 2, 2, row), True)
        self.assertIs(is_row(5, 2, 2, row[:2]), True)
        self.assertIs(is_row(5, 2, 2, [row[2], row[0], row[1]]), True)
        self.assertIs(is_row(5, 2, 2, row + [((2, 4), (0, 1))]), False)
        self.assertIs(is_row(5, 2, 2, [((0, 1), (1, 2))]), False)
        self.assertIs(is_row(5, 2, 2, [((0, 1), ()), ((0, 2), (1,))]), True)
        self.assertIs(is_row(5, 2, 2, [((0, 2), (1,)), ((0, 1), ())]), False)

    def test_the_order_counts(self):
        self.assertIs(is_row(3, 1, 1, [((0,), (1,)), ((2,), (0,))]), True)
        self.assertIs(is_row(3, 1, 1, [((2,), (0,)), ((0,), (1,))]), False)

    def test_every_later_one_counts(self):
        good = [((0,), (2,)), ((1,), (0,)), ((2,), (0, 1))]
        self.assertIs(is_row(4, 1, 2, good), True)
        self.assertIs(is_row(4, 1, 2, good[:2] + [((2,), (1,))]), False)
        self.assertIs(is_row(4, 1, 2, good[:2] + [((2,), (0,))]), False)

    def test_rows_of_none_and_of_one(self):
        self.assertIs(is_row(5, 2, 2, []), True)
        self.assertIs(is_row(5, 0, 0, []), True)
        self.assertIs(is_row(5, 0, 0, [((), ())]), True)
        self.assertIs(is_row(5, 0, 0, [((), ()), ((), ())]), False)
        self.assertIs(is_row(5, 0, 3, [((), (1, 2, 4))]), True)
        self.assertIs(is_row(5, 3, 0, [((1, 2, 4), ())]), True)
        self.assertIs(is_row(5, 3, 0, [((1, 2, 4), ()), ((0, 1, 2), ())]), False)

    def test_the_same_pair_twice(self):
        for pair in [((0, 1), (2, 3)), ((0, 1), ()), ((0, 1), (0, 1))]:
            self.assertIs(is_row(5, 2, 2, [pair, pair]), False)

    def test_sizes_and_strangers_beyond_eight_together(self):
        self.assertIs(is_row(16, 8, 8, [(tuple(range(8)), tuple(range(8, 16))),
                                        (tuple(range(8, 16)), tuple(range(8)))]), True)
        self.assertIs(is_row(30, 8, 8, [(tuple(range(22, 30)), tuple(range(8)))]), True)
        self.assertIs(is_row(29, 8, 8, [(tuple(range(22, 30)), tuple(range(8)))]), False)
        self.assertIs(is_row(30, 8, 8, [(tuple(range(22, 30)), tuple(range(9)))]), False)

    def test_against_rows_by_hand(self):
        chance = random.Random(41)
        seen = 0
        for turn in range(9000):
            many, size, strangers = chance.randint(2, 6), chance.randint(0, 2), chance.randint(0, 3)
            pairs = some_pairs(chance, many, size, strangers, chance.randint(1, 3))
            good = is_row_by_hand(pairs)
            seen += good and len(pairs) > 1
            self.assertIs(is_row(many, size, strangers, pairs), good, pairs)
        self.assertGreater(seen, 100)

    def test_never_longer_than_the_choices(self):
        for size in range(4):
            for strangers in range(4):
                row = whole_row(size, strangers)
                self.assertEqual(len(row), math.comb(size + strangers, size))
                self.assertIs(is_row(30, size, strangers, row), True)
                self.assertIs(is_row(30, size, strangers, row[::-1]), True)
                everything = [(one, other) for one in itertools.combinations(range(5), size)
                              for count in range(strangers + 1) for other in itertools.combinations(range(5), count)]
                if size + strangers <= 5:
                    for pair in everything:
                        self.assertIs(is_row(30, size, strangers, row + [pair]), False)
                        self.assertIs(is_row(30, size, strangers, [pair] + row), False)

    def test_a_long_row(self):
        row = whole_row(4, 4)
        self.assertIs(is_row(8, 4, 4, row), True)
        self.assertIs(is_row(8, 4, 4, row + row[:1]), False)

    def test_things_of_every_kind(self):
        row = [((0, 1), (2, 3)), ((0, 2), (1, 3))]
        for thing in things_of_other_kinds() + no_whole_numbers() + [tuple(row), (row,), [row], row[0], list(row[0])]:
            if thing != []:
                with self.subTest(repr(thing)):
                    self.assertIs(is_row(5, 2, 2, thing), False)

    def test_what_is_no_pair(self):
        row = [((0, 1), (2, 3)), ((0, 2), (1, 3))]
        for wrong in WRONG_PAIRS:
            with self.subTest(repr(wrong)):
                self.assertIs(is_row(5, 2, 2, [wrong]), False)
                for at in range(3):
                    self.assertIs(is_row(5, 2, 2, row[:at] + [wrong] + row[at:]), False)

    def test_nothing_is_changed(self):
        row = [((0, 1), (2, 3)), ((0, 2), (1, 3))]
        before = copy.deepcopy(row)
        is_row(5, 2, 2, row)
        self.assertEqual(row, before)


class LongestRow(unittest.TestCase):
    def look(self, many, size, strangers, pairs):
        told = longest_row(many, size, strangers, pairs)
        self.assertIsInstance(told, list)
        self.assertEqual(len(set(told)), len(told))
        self.assertTrue(all(type(at) is int and 0 <= at < len(pairs) for at in told))
        row = [pairs[at] for at in told]
        self.assertTrue(is_row_by_hand(row))
        self.assertIs(is_row(many, size, strangers, row), True)
        return len(told)

    def test_ordinary(self):
        pairs = [((2,), (0,)), ((1,), (1,)), ((0,), (1,))]
        self.assertEqual(longest_row(3, 1, 1, pairs), [2, 0])
        self.assertEqual(longest_row(3, 1, 1, pairs[1:]), [1])

    def test_against_all_orders(self):
        chance = random.Random(42)
        for turn in range(200):
            many, size, strangers = chance.randint(2, 6), chance.randint(0, 2), chance.randint(0, 3)
            pairs = some_pairs(chance, many, size, strangers, chance.randint(0, 6))
            with self.subTest(pairs):
                self.assertEqual(self.look(many, size, strangers, pairs), longest_by_hand(pairs))

    def test_lists_of_none_and_of_pairs_that_meet_within(self):
        self.assertEqual(longest_row(5, 2, 2, []), [])
        self.assertEqual(longest_row(5, 2, 2, [((0, 1), (1,))]), [])
        self.assertEqual(longest_row(5, 2, 2, [((0, 1), (1,)), ((0, 2), (0, 2)), ((3, 4), (2, 3))]), [])
        self.assertEqual(longest_row(5, 2, 2, [((0, 1), (1,)), ((0, 2), (1,)), ((3, 4), (2, 3))]), [1])
        self.assertEqual(longest_row(5, 2, 2, [((0, 1), (0, 1))] * 12), [])

    def test_the_same_pair_twice(self):
        for pair in [((0, 1), (2, 3)), ((0, 1), ())]:
            self.assertEqual(self.look(5, 2, 2, [pair, pair]), 1)
            self.assertEqual(self.look(5, 2, 2, [pair] * 12), 1)
        self.assertEqual(self.look(4, 1, 1, [((0,), (1,)), ((0,), (1,)), ((1,), (0,)), ((1,), (0,))]), 2)

    def test_lists_of_twelve_and_of_thirteen(self):
        chance = random.Random(43)
        for size, strangers in [(2, 2), (3, 2), (2, 3), (4, 4), (1, 7), (7, 1)]:
            row = whole_row(size, strangers)
            pairs = chance.sample(row, min(12, len(row)))
            self.assertEqual(self.look(8, size, strangers, pairs), len(pairs))
            with self.assertRaises(NoPairs) as caught:
                longest_row(8, size, strangers, (row * 13)[:13])
            self.assertIsNone(caught.exception.at)
        with self.assertRaises(NoPairs) as caught:
            longest_row(8, 2, 2, [None] * 13)
        self.assertIsNone(caught.exception.at)

    def test_a_row_that_stands_in_one_order_only(self):
        # Each one is a thing, and each other all the things ahead: one order alone is a row.
        row = [((at,), tuple(range(at))) for at in range(8)]
        chance = random.Random(44)
        for turn in range(10):
            numbers = chance.sample(range(8), 8)
            told = longest_row(8, 1, 8, [row[number] for number in numbers])
            self.assertEqual([numbers[at] for at in told], list(range(8)))

    def test_never_longer_than_the_choices(self):
        chance = random.Random(45)
        for turn in range(100):
            many, size, strangers = chance.randint(3, 6), chance.randint(0, 2), chance.randint(0, 2)
            pairs = some_pairs(chance, many, size, strangers, 12)
            self.assertLessEqual(self.look(many, size, strangers, pairs), math.comb(size + strangers, size))

    def test_things_called_otherwise_and_another_order(self):
        chance = random.Random(46)
        for turn in range(60):
            many, size, strangers = chance.randint(3, 8), chance.randint(1, 3), chance.randint(1, 3)
            pairs = some_pairs(chance, many, size, strangers, 10)
            names = chance.sample(range(many), many)
            turned = [(tuple(sorted(names[thing] for thing in one)), tuple(sorted(names[thing] for thing in other)))
                      for one, other in chance.sample(pairs, 10)]
            self.assertEqual(self.look(many, size, strangers, turned), self.look(many, size, strangers, pairs))


class Refusals(unittest.TestCase):
    def refused_at(self, thing):
        with self.assertRaises(NoPairs) as caught:
            longest_row(5, 2, 2, thing)
        return caught.exception.at

    def test_no_list(self):
        pairs = [((0, 1), (2, 3)), ((0, 2), (1, 3))]
        for thing in things_of_other_kinds() + no_whole_numbers() + [tuple(pairs), pairs[0]]:
            if not isinstance(thing, list):
                with self.subTest(repr(thing)):
                    self.assertIsNone(self.refused_at(thing))

    def test_what_is_no_pair_by_its_number(self):
        pairs = [((0, 1), (2, 3)), ((0, 2), (0, 3)), ((3, 4), ())]
        for wrong in WRONG_PAIRS:
            for at in range(4):
                with self.subTest(repr(wrong), at=at):
                    self.assertEqual(self.refused_at(pairs[:at] + [wrong] + pairs[at:]), at)
                    self.assertEqual(self.refused_at(pairs[:at] + [wrong, None] + pairs[at:]), at)
        self.assertEqual(self.refused_at([pairs[0]] * 11 + [None]), 11)

    def test_own_lists(self):
        pairs = [((2, 3), (0, 1)), ((0, 2), (1, 3)), ((0, 1), (0,))]
        before = copy.deepcopy(pairs)
        told = longest_row(5, 2, 2, pairs)
        good = list(told)
        told.append(7)
        told[0] = None
        self.assertEqual(pairs, before)
        again = longest_row(5, 2, 2, pairs)
        self.assertEqual(again, good)
        pairs.clear()
        self.assertEqual(again, good)
        longest_row(5, 2, 2, []).append(1)
        self.assertEqual(longest_row(5, 2, 2, []), [])


if __name__ == "__main__":
    unittest.main()
