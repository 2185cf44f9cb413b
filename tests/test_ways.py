import copy
import itertools
import random
import unittest

from fewstand.errors import LotError, NoSize, NoWeb
from fewstand.growing import best_growth, growth_paper
from fewstand.growthlook import growth_tells, is_growth_paper
from fewstand.machines import growth_worth
from fewstand.ways import best_way, way_worth
from tests.kinds import (full_web, greater, moved_web, no_whole_numbers, side_by_side, some_web,
                         things_of_other_kinds, ways_by_hand, wrong_lengths, wrong_webs)

WEB = (4, [(0, 1, 5), (1, 2, -4), (2, 0, 7), (2, 3, 0), (1, 0, 2)])


class WayWorth(unittest.TestCase):
    def test_by_hand(self):
        for way, worth in [([0], 0), ([3], 0), ([0, 1], 5), ([1, 0], 2), ([2, 3], 0), ([0, 1, 2], 1),
                           ([0, 1, 2, 3], 1), ([1, 2, 0], 3), ([2, 0, 1], 12), ([1, 2], -4)]:
            told = way_worth(WEB, way)
            self.assertEqual(told, worth)
            self.assertIsInstance(told, int)

    def test_no_arc_or_the_other_way(self):
        for thing in [[3, 2], [2, 1], [0, 2], [0, 3], [3, 0], [0, 1, 3], [3, 2, 0], [1, 2, 3, 0]]:
            self.assertIsNone(way_worth(WEB, thing))

    def test_a_place_twice(self):
        for thing in [[0, 0], [0, 1, 0], [1, 0, 1], [0, 1, 2, 0], [2, 0, 1, 2, 3], [3, 3]]:
            self.assertIsNone(way_worth(WEB, thing))

    def test_a_list_of_none(self):
        self.assertIsNone(way_worth(WEB, []))
        self.assertIsNone(way_worth((1, []), []))

    def test_places_beyond_the_web(self):
        for thing in [[4], [-1], [0, 1, 2, 4], [-4, 1], [10 ** 40], [-(10 ** 40)], [0, -3], [2, -1], [13]]:
            self.assertIsNone(way_worth(WEB, thing))

    def test_kinds_of_places(self):
        for thing in no_whole_numbers():
            with self.subTest(repr(thing)):
                for way in [[thing], [0, thing], [thing, 1], [0, thing, 2], [1, 2, thing]]:
                    self.assertIsNone(way_worth(WEB, way))
        self.assertIsNone(way_worth(WEB, [0, True]))
        self.assertIsNone(way_worth(WEB, [False, 1]))
        self.assertIsNone(way_worth(WEB, [[0, 1]]))
        self.assertIsNone(way_worth(WEB, [(0, 1)]))

    def test_other_kinds(self):
        for thing in things_of_other_kinds() + [(0, 1), (0,), "01", {0: 1}, [None], range(1), iter([0, 1]), (5, [0, 1])]:
            with self.subTest(repr(thing)):
                self.assertIsNone(way_worth(WEB, thing))

    def test_a_web_of_one_place(self):
        self.assertEqual(way_worth((1, []), [0]), 0)
        self.assertIsNone(way_worth((1, []), [1]))
        self.assertIsNone(way_worth((1, []), [0, 0]))

    def test_more_than_seven_places(self):
        web = (12, [(place, place + 1, place - 20) for place in range(11)])
        for size in range(1, 13):
            for start in range(13 - size):
                way = list(range(start, start + size))
                self.assertEqual(way_worth(web, way), sum(place - 20 for place in way[:-1]))
        self.assertIsNone(way_worth(web, list(range(13))))
        self.assertIsNone(way_worth(web, list(range(12))[::-1]))

    def test_against_all_lists_of_small_webs(self):
        chance = random.Random(101)
        for turn in range(40):
            web = some_web(chance, chance.randint(1, 4), chance.randint(0, 12), 9)
            for size in range(1, 5):
                ways = ways_by_hand(web, size)
                for row in itertools.product(range(-1, 5), repeat=size):
                    self.assertEqual(way_worth(web, list(row)), ways.get(row))

    def test_what_is_no_web(self):
        for web in wrong_webs():
            for thing in [[0], [], None, [0, 1], "abc", [[]]]:
                with self.subTest((web, thing)):
                    with self.assertRaises(NoWeb) as caught:
                        way_worth(web, thing)
                    self.assertIsInstance(caught.exception, LotError)

    def test_great_worths(self):
        web = (3, [(0, 1, 10 ** 59), (1, 2, 10 ** 59), (2, 0, -(10 ** 59))])
        self.assertEqual(way_worth(web, [0, 1, 2]), 2 * 10 ** 59)
        self.assertEqual(way_worth(web, [1, 2, 0]), 0)
        self.assertEqual(way_worth(web, [2, 0]), -(10 ** 59))

    def test_what_is_handed_in_stays(self):
        web, way = copy.deepcopy(WEB), [0, 1, 2]
        way_worth(web, way)
        self.assertEqual((web, way), (WEB, [0, 1, 2]))


class BestWay(unittest.TestCase):
    def look(self, web, size):
        told = best_way(web, size)
        if told is None:
            return None
        self.assertIsInstance(told, tuple)
        worth, way = told
        self.assertIsInstance(way, list)
        self.assertEqual(len(way), size)
        self.assertEqual(way_worth(web, way), worth)
        return worth

    def test_by_hand(self):
        self.assertEqual(best_way(WEB, 2), (7, [2, 0]))
        self.assertEqual(best_way(WEB, 3), (12, [2, 0, 1]))
        self.assertEqual(best_way(WEB, 4), (1, [0, 1, 2, 3]))
        self.assertEqual(self.look(WEB, 1), 0)
        self.assertIsNone(best_way(WEB, 5))

    def test_one_place(self):
        self.assertEqual(best_way((1, []), 1), (0, [0]))
        for many in range(1, 13):
            self.assertEqual(self.look((many, []), 1), 0)
            for size in range(2, 8):
                self.assertIsNone(best_way((many, []), size))

    def test_against_all_ways(self):
        chance = random.Random(102)
        seen, none = 0, 0
        for turn in range(60):
            web = some_web(chance, chance.randint(1, 8), chance.randint(0, 16), 9)
            for size in range(1, 8):
                good = max(ways_by_hand(web, size).values(), default=None)
                with self.subTest(web=web, size=size):
                    self.assertEqual(self.look(web, size), good)
                seen, none = seen + (good is not None and size > 3), none + (good is None)
        self.assertGreater(seen, 60)
        self.assertGreater(none, 40)

    def test_worths_all_below_0(self):
        web = (7, [(start, end, -1 - start * end) for start, end in itertools.permutations(range(7), 2)])
        for size in range(1, 8):
            self.assertEqual(self.look(web, size), max(ways_by_hand(web, size).values()))

    def test_twelve_places_with_sixty_arcs(self):
        web = full_web()
        self.assertEqual(len(web[1]), 60)
        for size in range(1, 8):
            self.assertEqual(self.look(web, size), max(ways_by_hand(web, size).values()))

    def test_many_sets_at_one_place(self):
        """All ways from three rows of places lead through one: of the many sets there few are carried along."""
        chance = random.Random(103)
        for turn in range(5):
            arcs = [(start, end) for start in range(7) for end in range(7) if start != end]
            arcs += [(start, 7) for start in range(7)] + [(7, end) for end in range(7)] + [(7, 8), (8, 9), (9, 10)]
            web = (12, [(start, end, chance.randint(-20, 20)) for start, end in arcs][:60])
            self.assertEqual(self.look(web, 7), max(ways_by_hand(web, 7).values()))

    def test_the_greedy_one_is_not_the_best(self):
        # The best arc leads to a place that is wanted later for more.
        web = (5, [(0, 3, 9), (0, 1, 1), (3, 2, 9), (1, 2, 1), (2, 3, 50), (2, 1, 2), (3, 4, 50)])
        self.assertEqual(best_way(web, 5), (102, [0, 1, 2, 3, 4]))

    def test_places_called_otherwise(self):
        chance = random.Random(104)
        for turn in range(25):
            many = chance.randint(2, 12)
            web = some_web(chance, many, chance.randint(1, 60), 9)
            names = chance.sample(range(many), many)
            other = moved_web(web, names)
            for size in range(1, 8):
                self.assertEqual(self.look(web, size), self.look(other, size))

    def test_arcs_in_another_order(self):
        chance = random.Random(105)
        for turn in range(20):
            web = some_web(chance, 8, 25, 9)
            other = (8, chance.sample(web[1], len(web[1])))
            for size in range(1, 8):
                self.assertEqual(self.look(web, size), self.look(other, size))

    def test_two_webs_side_by_side(self):
        chance = random.Random(106)
        for turn in range(30):
            one = some_web(chance, chance.randint(1, 6), chance.randint(0, 15), 9)
            other = some_web(chance, chance.randint(1, 6), chance.randint(0, 15), 9)
            for size in range(1, 8):
                good = greater(self.look(one, size), self.look(other, size))
                self.assertEqual(self.look(side_by_side(one, other), size), good)

    def test_great_worths(self):
        web = (3, [(0, 1, 10 ** 59), (1, 2, 10 ** 59), (2, 0, -(10 ** 59)), (0, 2, 10 ** 59 - 1)])
        self.assertEqual(best_way(web, 3), (2 * 10 ** 59, [0, 1, 2]))
        self.assertEqual(self.look(web, 2), 10 ** 59)

    def test_no_size(self):
        for size in wrong_lengths():
            with self.subTest(repr(size)):
                with self.assertRaises(NoSize) as caught:
                    best_way(WEB, size)
                self.assertIsInstance(caught.exception, LotError)
        for size in [0, 8, True, None, "3", -1]:
            with self.assertRaises(NoSize):
                best_way((1, []), size)

    def test_no_web_ahead_of_no_size(self):
        for web in wrong_webs():
            for size in [1, 2, 7, 0, 8, True, None, "3"]:
                with self.subTest((web, size)):
                    with self.assertRaises(NoWeb):
                        best_way(web, size)

    def test_what_is_handed_in_stays_and_what_is_told_is_apart(self):
        web = copy.deepcopy(WEB)
        told = best_way(web, 3)
        self.assertEqual(web, WEB)
        told[1].append(9)
        told[1][0] = None
        self.assertEqual(best_way(web, 3), (12, [2, 0, 1]))
        other = best_way(web, 3)
        web[1].clear()
        self.assertEqual(other, (12, [2, 0, 1]))
        self.assertIsNone(best_way(web, 3))


class MachinesOfWebs(unittest.TestCase):
    """Ways from a place are growths of a machine that has a state for each place."""

    def ways_from(self, web, first, size):
        return [worth for way, worth in ways_by_hand(web, size).items() if way[0] == first]

    def test_best_growths_and_papers(self):
        chance = random.Random(107)
        for turn in range(12):
            many = chance.randint(2, 7)
            web = some_web(chance, many, chance.randint(3, 30), 9)
            first = chance.randrange(many)
            steps = [(start, end, end, worth) for start, end, worth in web[1] if end != first]
            machine = (many, [first], steps, list(range(many)))
            for size in range(1, 7):
                good = max(self.ways_from(web, first, size + 1), default=None)
                told = best_growth(many, machine, size)
                self.assertEqual(None if told is None else told[0], good)
                if told is not None:
                    self.assertEqual(growth_worth(many, machine, size, told[1]), good)
                    self.assertEqual(way_worth(web, [first] + [place for place, state in told[1]]), good)
                paper = growth_paper(many, machine, size)
                self.assertIs(is_growth_paper(many, machine, size, paper), True)
                self.assertEqual(growth_tells(machine, paper), good)

    def test_the_best_of_all_first_places_is_the_best_way(self):
        web = full_web()
        for size in [2, 4, 7]:
            found = []
            for first in range(12):
                steps = [(start, end, end, worth) for start, end, worth in web[1] if end != first]
                found.append(best_growth(12, (12, [first], steps, list(range(12))), size - 1)[0])
            self.assertEqual(best_way(web, size)[0], max(found))


if __name__ == "__main__":
    unittest.main()
