import itertools
import math
import unittest

from fewstand.choosing import choices, how_many
from fewstand.numbers import is_whole


class Choices(unittest.TestCase):
    def test_every_pair_within_the_bounds(self):
        for many in range(13):
            for some in range(13):
                with self.subTest(many=many, some=some):
                    told = choices(many, some)
                    self.assertEqual(told, list(itertools.combinations(range(many), some)))
                    self.assertEqual(told, sorted(told))

    def test_edges(self):
        self.assertEqual(choices(0, 0), [()])
        self.assertEqual(choices(3, 0), [()])
        self.assertEqual(choices(0, 1), [])
        self.assertEqual(choices(2, 3), [])
        self.assertEqual(choices(3, 2), [(0, 1), (0, 2), (1, 2)])
        self.assertEqual(choices(12, 12), [tuple(range(12))])
        self.assertEqual(choices(11, 12), [])

    def test_kinds(self):
        told = choices(4, 2)
        self.assertIsInstance(told, list)
        for choice in told:
            self.assertIsInstance(choice, tuple)
            self.assertTrue(all(is_whole(place) for place in choice))

    def test_told_lists_are_the_askers_own(self):
        for many, some in [(4, 2), (3, 0), (0, 0), (2, 3)]:
            with self.subTest(many=many, some=some):
                good = list(itertools.combinations(range(many), some))
                first = choices(many, some)
                second = choices(many, some)
                first.append("more")
                first.reverse()
                self.assertEqual(second, good)
                self.assertEqual(choices(many, some), good)

    def test_somewhat_beyond_the_bounds(self):
        self.assertEqual(len(choices(14, 3)), 364)
        self.assertEqual(choices(15, 15), [tuple(range(15))])
        self.assertEqual(choices(3, -1), [])
        self.assertEqual(how_many(3, -1), 0)


class HowMany(unittest.TestCase):
    def test_every_pair_within_the_bounds(self):
        for many in range(13):
            for some in range(13):
                with self.subTest(many=many, some=some):
                    self.assertEqual(how_many(many, some), len(choices(many, some)))

    def test_edges(self):
        self.assertEqual(how_many(0, 0), 1)
        self.assertEqual(how_many(0, 1), 0)
        self.assertEqual(how_many(5, 6), 0)
        self.assertEqual(how_many(12, 6), 924)
        self.assertEqual(how_many(12, 12), 1)
        self.assertEqual(how_many(11, 12), 0)

    def test_of_grounds(self):
        for many in range(31):
            for some in range(9):
                self.assertEqual(how_many(many, some), math.comb(many, some))

    def test_kind(self):
        self.assertIs(is_whole(how_many(5, 2)), True)
        self.assertIs(is_whole(how_many(2, 5)), True)


if __name__ == "__main__":
    unittest.main()
