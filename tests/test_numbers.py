import unittest

from fewstand.errors import NoNumber
from fewstand.numbers import contrary, is_prime, is_whole, is_within, prime_from
from tests.kinds import no_whole_numbers


def primes_by_sieve(end):
    left = [False, False] + [True] * (end - 2)
    for number in range(2, end):
        if left[number]:
            for product in range(2 * number, end, number):
                left[product] = False
    return [number for number in range(end) if left[number]]


PRIMES = primes_by_sieve(10000)


class WholeNumbers(unittest.TestCase):
    def test_numbers_are(self):
        for number in [0, 1, 2, -1, -7, 10000, 10 ** 59, -(10 ** 59)]:
            with self.subTest(number):
                self.assertIs(is_whole(number), True)

    def test_other_kinds_are_not(self):
        for thing in no_whole_numbers():
            with self.subTest(repr(thing)):
                self.assertIs(is_whole(thing), False)

    def test_within_bounds(self):
        self.assertEqual([number for number in range(-3, 9) if is_within(number, 1, 4)], [1, 2, 3, 4])
        self.assertIs(is_within(0, 0, -1), False)
        for thing in no_whole_numbers():
            with self.subTest(repr(thing)):
                self.assertIs(is_within(thing, -5, 5), False)


class Primes(unittest.TestCase):
    def test_all_below_the_bound(self):
        self.assertEqual([number for number in range(10000) if is_prime(number)], PRIMES)

    def test_edges(self):
        for number in [2, 3, 5, 7, 9967, 9973]:
            with self.subTest(number):
                self.assertIs(is_prime(number), True)
        for number in [-7, -3, -2, -1, 0, 1, 4, 9, 25, 49, 121, 97 * 97, 9999, 10000]:
            with self.subTest(number):
                self.assertIs(is_prime(number), False)

    def test_beyond_the_bound_none_is_told(self):
        for number in [10001, 10007, 10009, 104729, 2 ** 61 - 1, 10 ** 59 + 1]:
            with self.subTest(number):
                self.assertIs(is_prime(number), False)

    def test_other_kinds_are_not(self):
        for thing in no_whole_numbers():
            with self.subTest(repr(thing)):
                self.assertIs(is_prime(thing), False)


class PrimeFrom(unittest.TestCase):
    def test_every_number(self):
        at = 0
        for number in range(9001):
            if PRIMES[at] < number:
                at += 1
            self.assertEqual(prime_from(number), PRIMES[at], number)

    def test_edges(self):
        for number, prime in [(0, 2), (1, 2), (2, 2), (3, 3), (4, 5), (8, 11), (14, 17), (24, 29),
                              (31, 31), (32, 37), (8999, 8999), (9000, 9001)]:
            with self.subTest(number):
                self.assertEqual(prime_from(number), prime)

    def test_refused(self):
        for thing in [-1, -2, 9001, 9002, 10000, 10 ** 59, -(10 ** 59)] + no_whole_numbers():
            with self.subTest(repr(thing)), self.assertRaises(NoNumber):
                prime_from(thing)


class Contrary(unittest.TestCase):
    def test_small_primes(self):
        for prime in PRIMES[:20]:
            for number in range(-2 * prime, 2 * prime + 1):
                with self.subTest(prime=prime, number=number):
                    self.look(prime, number)

    def test_great_primes(self):
        for prime in [7919, 9001, 9973, 10007, 2 ** 61 - 1]:
            for number in [1, 2, 3, -1, -2, prime - 1, prime + 1, 5 * prime + 4, -3 * prime - 8,
                           10 ** 40, 0, prime, -prime, 12 * prime]:
                with self.subTest(prime=prime, number=number):
                    self.look(prime, number)

    def look(self, prime, number):
        if number % prime == 0:
            with self.assertRaises(NoNumber):
                contrary(prime, number)
            return
        told = contrary(prime, number)
        self.assertIs(is_whole(told), True)
        self.assertTrue(0 <= told < prime)
        self.assertEqual(told * number % prime, 1)


if __name__ == "__main__":
    unittest.main()
