import copy
import itertools
import random
import unittest

from fewstand.numbers import is_whole
from fewstand.sums import free_ones, leanings, shares
from fewstand.tables import prime_for, row_of


def added(prime, rows, times, width):
    return [sum(time * row[place] for time, row in zip(times, rows)) % prime for place in range(width)]


def leans(prime, rows, row):
    """By going through all sums."""
    return any(added(prime, rows, times, len(row)) == row
               for times in itertools.product(range(prime), repeat=len(rows)))


def free_by_hand(prime, rows):
    return [at for at, row in enumerate(rows) if not leans(prime, rows[:at], row)]


class FreeOnes(unittest.TestCase):
    def test_noughts_and_alike_rows(self):
        for prime in [2, 3, 5, 31, 9973]:
            with self.subTest(prime):
                self.assertEqual(free_ones(prime, []), [])
                self.assertEqual(free_ones(prime, [[0]]), [])
                self.assertEqual(free_ones(prime, [[1]]), [0])
                self.assertEqual(free_ones(prime, [[0, 0], [0, 1], [0, 1], [0, 0], [1, 0], [1, 1]]), [1, 4])
                self.assertEqual(free_ones(prime, [[0, 0, 1], [0, 1, 0], [1, 0, 0]]), [0, 1, 2])

    def test_sums_of_rows_ahead(self):
        self.assertEqual(free_ones(2, [[1, 1, 0], [0, 1, 1], [1, 0, 1], [1, 1, 1]]), [0, 1, 3])
        self.assertEqual(free_ones(3, [[1, 1, 0], [0, 1, 1], [1, 0, 1]]), [0, 1, 2])
        self.assertEqual(free_ones(3, [[1, 2], [2, 1], [1, 1]]), [0, 2])
        self.assertEqual(free_ones(5, [[1, 2], [2, 1], [1, 1]]), [0, 1])
        self.assertEqual(free_ones(5, [[1, 2], [3, 1], [2, 1]]), [0, 2])
        self.assertEqual(free_ones(9973, [[1, 9972], [9972, 1], [2, 2]]), [0, 2])

    def test_against_all_sums(self):
        chance = random.Random(3)
        for prime in [2, 3, 5]:
            for turn in range(60):
                width = chance.randint(1, 4)
                rows = [[chance.choice([0, chance.randrange(prime)]) for place in range(width)]
                        for row in range(chance.randint(0, 5))]
                with self.subTest(prime=prime, rows=rows):
                    self.assertEqual(free_ones(prime, rows), free_by_hand(prime, rows))

    def test_all_small_lists_over_2(self):
        rows = [list(row) for row in itertools.product(range(2), repeat=2)]
        for count in range(4):
            for some in itertools.product(rows, repeat=count):
                self.assertEqual(free_ones(2, list(some)), free_by_hand(2, list(some)))

    def test_many_rows_of_lots(self):
        lots = list(itertools.combinations(range(8), 4))
        prime = prime_for(8, 4)
        self.assertEqual(free_ones(prime, [row_of(8, 4, 4, lot) for lot in lots]), list(range(70)))
        lots = list(itertools.combinations(range(12), 2))
        self.assertEqual(len(free_ones(prime_for(12, 2), [row_of(12, 2, 2, lot) for lot in lots])), 6)

    def test_own_lists(self):
        rows = [[0, 0], [1, 2], [2, 4], [3, 3]]
        before = copy.deepcopy(rows)
        told = free_ones(5, rows)
        self.assertEqual(told, [1, 3])
        told.clear()
        self.assertEqual(rows, before)
        self.assertEqual(free_ones(5, rows), [1, 3])


class Shares(unittest.TestCase):
    def test_ordinary(self):
        self.assertEqual(shares(5, [[1, 2], [0, 1]], [3, 3]), [3, 2])
        self.assertEqual(shares(7, [[0, 2, 0], [3, 0, 0]], [1, 1, 0]), [4, 5])
        self.assertIsNone(shares(7, [[0, 2, 0], [3, 0, 0]], [1, 1, 1]))
        self.assertEqual(shares(2, [[1, 1, 0], [0, 1, 1]], [1, 0, 1]), [1, 1])
        self.assertIsNone(shares(3, [[1, 1, 0], [0, 1, 1]], [1, 0, 1]))
        self.assertEqual(shares(3, [[1, 1, 0], [0, 1, 1]], [1, 0, 2]), [1, 2])

    def test_noughts_and_no_rows(self):
        for prime in [2, 3, 9973]:
            with self.subTest(prime):
                self.assertEqual(shares(prime, [], [0]), [])
                self.assertEqual(shares(prime, [], [0, 0]), [])
                self.assertIsNone(shares(prime, [], [1]))
                self.assertIsNone(shares(prime, [], [0, 1]))
                self.assertEqual(shares(prime, [[1, 1], [0, 1]], [0, 0]), [0, 0])
                self.assertEqual(shares(prime, [[1, 1], [0, 1]], [1, 1]), [1, 0])
                self.assertEqual(shares(prime, [[1, 1], [0, 1]], [0, 1]), [0, 1])

    def test_against_all_sums(self):
        chance = random.Random(5)
        for prime in [2, 3, 5]:
            for turn in range(40):
                width = chance.randint(1, 3)
                rows = [[chance.randrange(prime) for place in range(width)] for row in range(4)]
                rows = [rows[at] for at in free_by_hand(prime, rows)]
                for row in itertools.product(range(prime), repeat=width):
                    found = [list(times) for times in itertools.product(range(prime), repeat=len(rows))
                             if added(prime, rows, times, width) == list(row)]
                    with self.subTest(prime=prime, rows=rows, row=row):
                        self.assertLessEqual(len(found), 1)
                        self.assertEqual(shares(prime, rows, list(row)), found[0] if found else None)

    def test_rows_of_lots_over_a_greater_prime(self):
        lots = list(itertools.combinations(range(9), 3))
        prime = prime_for(9, 2)
        rows = [row_of(9, 3, 2, lot) for lot in lots]
        free = [rows[at] for at in free_ones(prime, rows)]
        self.assertEqual(len(free), 10)
        for row in rows:
            told = shares(prime, free, row)
            self.assertEqual(len(told), 10)
            self.assertTrue(all(is_whole(share) and 0 <= share < prime for share in told))
            self.assertEqual(added(prime, free, told, len(row)), row)
            if row not in free[:5]:
                ahead = shares(prime, free[:5], row)
                self.assertEqual(ahead, told[:5] if not any(told[5:]) else None)

    def test_own_lists(self):
        rows, row = [[1, 2], [0, 1]], [3, 3]
        told = shares(5, rows, row)
        told.reverse()
        told.append(1)
        self.assertEqual((rows, row), ([[1, 2], [0, 1]], [3, 3]))
        again = shares(5, rows, row)
        self.assertEqual(again, [3, 2])
        rows[0][0] = 4
        row.clear()
        self.assertEqual(again, [3, 2])


class Leanings(unittest.TestCase):
    def test_against_free_ones_and_shares(self):
        chance = random.Random(6)
        for turn in range(200):
            prime, width = chance.choice([2, 3, 5, 31]), chance.randint(1, 4)
            rows = [[chance.randrange(prime) for place in range(width)] for row in range(chance.randint(0, 9))]
            free = free_ones(prime, rows)
            good = [None if at in free else shares(prime, [rows[ahead] for ahead in free if ahead < at], row)
                    for at, row in enumerate(rows)]
            with self.subTest(prime=prime, rows=rows):
                self.assertEqual(leanings(prime, rows), good)

    def test_noughts(self):
        self.assertEqual(leanings(5, []), [])
        self.assertEqual(leanings(5, [[0, 0], [0, 2], [0, 0], [0, 1]]), [[], None, [0], [3]])


if __name__ == "__main__":
    unittest.main()
