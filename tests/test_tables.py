import itertools
import unittest

from fewstand.errors import NoLot
from fewstand.numbers import is_prime, is_whole
from fewstand.tables import line, meeting, prime_for, row_of


def determinant(rows):
    """By the sum over all orders of the places, over whole numbers."""
    total = 0
    for order in itertools.permutations(range(len(rows))):
        turned = sum(1 for at, one in enumerate(order) for other in order[at + 1:] if other < one)
        product = -1 if turned % 2 else 1
        for row, place in zip(rows, order):
            product *= row[place]
        total += product
    return total


def powers(width, thing):
    return [thing ** power for power in range(width)]


def row_by_hand(prime, size, strangers, lot):
    lines = [powers(size + strangers, thing) for thing in lot]
    return [determinant([[row[place] for place in places] for row in lines]) % prime
            for places in itertools.combinations(range(size + strangers), size)]


class PrimeFor(unittest.TestCase):
    def test_least_prime_not_below_both_together(self):
        for many in range(1, 31):
            for strangers in range(9):
                told = prime_for(many, strangers)
                self.assertTrue(is_prime(told))
                self.assertGreaterEqual(told, many + strangers)
                self.assertFalse(any(is_prime(number) for number in range(many + strangers, told)))

    def test_edges(self):
        for many, strangers, prime in [(1, 0, 2), (1, 1, 2), (2, 0, 2), (2, 1, 3), (3, 1, 5), (30, 0, 31),
                                       (30, 1, 31), (30, 2, 37), (30, 8, 41), (24, 8, 37)]:
            self.assertEqual(prime_for(many, strangers), prime)


class Lines(unittest.TestCase):
    def test_against_powers(self):
        for many, size, strangers in [(1, 0, 1), (1, 1, 0), (4, 2, 1), (5, 3, 3), (30, 4, 4), (30, 8, 0), (30, 0, 8)]:
            prime = prime_for(many, strangers)
            for thing in range(many + strangers):
                with self.subTest(many=many, thing=thing):
                    good = [number % prime for number in powers(size + strangers, thing)]
                    self.assertEqual(line(many, size, strangers, thing), good)

    def test_edges(self):
        self.assertEqual(line(4, 0, 0, 3), [])
        self.assertEqual(line(4, 1, 0, 3), [1])
        self.assertEqual(line(4, 2, 2, 0), [1, 0, 0, 0])
        self.assertEqual(line(4, 2, 2, 1), [1, 1, 1, 1])
        self.assertEqual(line(4, 2, 2, 3), [1, 3, 2, 6])
        self.assertEqual(line(4, 2, 2, 5), [1, 5, 4, 6])

    def test_own_lists(self):
        told = line(4, 2, 2, 3)
        told.clear()
        self.assertEqual(line(4, 2, 2, 3), [1, 3, 2, 6])


class Rows(unittest.TestCase):
    def test_against_determinants(self):
        for many in [1, 2, 3, 5]:
            for size in range(many + 1):
                for strangers in range(5 - size if size < 5 else 1):
                    prime = prime_for(many, strangers)
                    for lot in itertools.combinations(range(many), size):
                        with self.subTest(many=many, strangers=strangers, lot=lot):
                            told = row_of(many, size, strangers, lot)
                            self.assertEqual(told, row_by_hand(prime, size, strangers, lot))

    def test_great_grounds(self):
        for strangers, lot in [(4, (0, 7, 19, 29)), (4, (26, 27, 28, 29)), (5, (3, 11, 28)), (6, (0, 29)), (7, (17,)),
                               (3, (1, 2, 3, 28, 29)), (2, (0, 5, 10, 15, 20, 25)), (1, (1, 4, 9, 16, 25, 26, 27))]:
            with self.subTest(lot):
                prime = prime_for(30, strangers)
                told = row_of(30, len(lot), strangers, lot)
                self.assertEqual(told, row_by_hand(prime, len(lot), strangers, lot))
                self.assertTrue(all(is_whole(number) and 0 <= number < prime for number in told))

    def test_edges(self):
        self.assertEqual(row_of(4, 0, 0, ()), [1])
        self.assertEqual(row_of(4, 0, 3, ()), [1])
        self.assertEqual(row_of(30, 0, 8, ()), [1])
        self.assertEqual(row_of(4, 1, 0, (2,)), [1])
        self.assertEqual(row_of(4, 1, 2, (3,)), line(4, 1, 2, 3))
        self.assertEqual(len(row_of(30, 4, 4, (0, 1, 2, 3))), 70)
        self.assertEqual(row_of(30, 8, 0, tuple(range(8))), [row_by_hand(31, 8, 0, tuple(range(8)))[0]])

    def test_no_lot(self):
        for thing in [None, True, 1, "", "01", b"\x00\x01", [], [0, 1], {}, {0: 1}, range(2), (), (0,), (0, 1, 2),
                      (1, 0), (1, 1), (-1, 0), (0, 4), (4, 5), (0, True), (False, 1), (0, "1"), (0, None), (0, 1.0),
                      (0, [1]), ((0, 1), 1)]:
            with self.subTest(repr(thing)), self.assertRaises(NoLot):
                row_of(4, 2, 2, thing)
        for thing in [None, [], (0,), 0, "", False]:
            with self.subTest(repr(thing)), self.assertRaises(NoLot):
                row_of(4, 0, 2, thing)

    def test_own_lists(self):
        for lot in [(0, 3), ()]:
            told = row_of(4, len(lot), 2, lot)
            good = list(told)
            told.append(9)
            told[0] = 8
            self.assertEqual(row_of(4, len(lot), 2, lot), good)


class Meetings(unittest.TestCase):
    def test_against_determinants_and_0_just_where_they_share(self):
        for many in [1, 2, 4, 5]:
            for size in range(many + 1):
                for strangers in range(5 - size if size < 5 else 1):
                    prime = prime_for(many, strangers)
                    for lot in itertools.combinations(range(many), size):
                        for others in itertools.combinations(range(many + strangers), strangers):
                            told = meeting(many, lot, others)
                            lines = [powers(size + strangers, thing) for thing in lot + others]
                            self.assertEqual(told, determinant(lines) % prime, (many, lot, others))
                            self.assertEqual(told == 0, bool(set(lot) & set(others)), (many, lot, others))

    def test_great_grounds(self):
        for lot, others in [((0, 7, 19, 29), (1, 2, 3, 28)), ((0, 7, 19, 29), (30, 31, 32, 33)),
                            ((5, 9, 29), (0, 1, 30)), ((2, 3, 4), (4, 5, 6)), ((29,), (28, 29, 30)),
                            ((0, 1, 2, 3, 4, 5), ()), ((), (24, 25, 26, 27, 30))]:
            with self.subTest(lot=lot, others=others):
                prime = prime_for(30, len(others))
                lines = [powers(len(lot + others), thing) for thing in lot + others]
                self.assertEqual(meeting(30, lot, others), determinant(lines) % prime)

    def test_edges(self):
        self.assertEqual(meeting(4, (), ()), 1)
        self.assertEqual(meeting(4, (2,), ()), 1)
        self.assertEqual(meeting(4, (), (2,)), 1)
        self.assertEqual(meeting(4, (1,), (3,)), 2)
        self.assertEqual(meeting(4, (3,), (1,)), 3)

    def test_what_rows_add_up_to_meeting_numbers_do(self):
        many, size, strangers = 5, 2, 2
        prime = prime_for(many, strangers)
        lots = list(itertools.combinations(range(many), size))
        places = list(itertools.combinations(range(size + strangers), size))
        for others in itertools.combinations(range(many + strangers), strangers):
            lines = [line(many, size, strangers, thing) for thing in others]
            times = []
            for chosen in places:
                left = [place for place in range(size + strangers) if place not in chosen]
                sign = -1 if (sum(chosen) - sum(range(size))) % 2 else 1
                times.append(sign * determinant([[row[place] for place in left] for row in lines]))
            for lot in lots:
                row = row_of(many, size, strangers, lot)
                total = sum(number * time for number, time in zip(row, times)) % prime
                self.assertEqual(meeting(many, lot, others), total)


if __name__ == "__main__":
    unittest.main()
