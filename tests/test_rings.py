import copy
import itertools
import random
import unittest

from fewstand.errors import LotError, NoSize, NoWeb
from fewstand.growing import best_growth, growth_paper
from fewstand.growthlook import growth_tells, is_growth_paper
from fewstand.rings import best_ring, ring_worth
from tests.kinds import (full_web, greater, moved_web, no_whole_numbers, rings_by_hand, side_by_side, some_web,
                         things_of_other_kinds, wrong_lengths, wrong_webs)

WEB = (4, [(0, 1, 5), (1, 2, -4), (2, 0, 7), (2, 3, 0), (1, 0, 2), (3, 1, -9)])


class RingWorth(unittest.TestCase):
    def test_by_hand(self):
        for ring, worth in [([0, 1], 7), ([0, 1, 2], 8), ([1, 2, 3], -13)]:
            told = ring_worth(WEB, ring)
            self.assertEqual(told, worth)
            self.assertIsInstance(told, int)

    def test_the_least_place_is_first(self):
        for thing in [[1, 0], [1, 2, 0], [2, 0, 1], [2, 3, 1], [3, 1, 2]]:
            self.assertIsNone(ring_worth(WEB, thing))

    def test_no_arc_amid_or_back(self):
        for thing in [[2, 3], [0, 2], [0, 1, 2, 3], [0, 1, 3], [1, 3, 2], [0, 2, 1], [1, 2]]:
            self.assertIsNone(ring_worth(WEB, thing))

    def test_none_and_one_place(self):
        for thing in [[], [0], [1], [3]]:
            self.assertIsNone(ring_worth(WEB, thing))
        self.assertIsNone(ring_worth((1, []), [0]))

    def test_a_place_twice(self):
        for thing in [[0, 0], [0, 1, 0, 1], [0, 1, 0], [1, 2, 3, 1, 2, 3], [0, 1, 2, 0]]:
            self.assertIsNone(ring_worth(WEB, thing))

    def test_places_beyond_the_web(self):
        for thing in [[0, 4], [-1, 0], [0, 1, 4], [-4, 1], [0, 10 ** 40], [-3, -2], [1, 2, -1], [4, 5]]:
            self.assertIsNone(ring_worth(WEB, thing))

    def test_kinds_of_places(self):
        for thing in no_whole_numbers():
            with self.subTest(repr(thing)):
                for ring in [[thing, 1], [0, thing], [0, thing, 2], [0, 1, thing], [thing, thing]]:
                    self.assertIsNone(ring_worth(WEB, ring))
        self.assertIsNone(ring_worth(WEB, [0, True]))
        self.assertIsNone(ring_worth(WEB, [False, 1]))

    def test_other_kinds(self):
        for thing in things_of_other_kinds() + [(0, 1), (0, 1, 2), "01", {0: 1, 1: 0}, range(2), iter([0, 1]), [[0, 1]]]:
            with self.subTest(repr(thing)):
                self.assertIsNone(ring_worth(WEB, thing))

    def test_more_than_seven_places(self):
        for many in range(2, 13):
            web = (many, [(place, (place + 1) % many, 3 * place - 17) for place in range(many)])
            self.assertEqual(ring_worth(web, list(range(many))), sum(3 * place - 17 for place in range(many)))
            self.assertIsNone(ring_worth(web, list(range(many))[:-1]))
            self.assertIsNone(ring_worth(web, list(range(1, many)) + [0]))

    def test_against_all_lists_of_small_webs(self):
        chance = random.Random(111)
        for turn in range(40):
            web = some_web(chance, chance.randint(1, 4), chance.randint(0, 12), 9)
            for size in range(1, 5):
                rings = rings_by_hand(web, size) if size > 1 else {}
                for row in itertools.product(range(-1, 5), repeat=size):
                    self.assertEqual(ring_worth(web, list(row)), rings.get(row))

    def test_what_is_no_web(self):
        for web in wrong_webs():
            for thing in [[0, 1], [], None, "abc", [[]]]:
                with self.subTest((web, thing)):
                    with self.assertRaises(NoWeb) as caught:
                        ring_worth(web, thing)
                    self.assertIsInstance(caught.exception, LotError)

    def test_what_is_handed_in_stays(self):
        web, ring = copy.deepcopy(WEB), [0, 1, 2]
        ring_worth(web, ring)
        self.assertEqual((web, ring), (WEB, [0, 1, 2]))


class BestRing(unittest.TestCase):
    def look(self, web, size):
        told = best_ring(web, size)
        if told is None:
            return None
        self.assertIsInstance(told, tuple)
        worth, ring = told
        self.assertIsInstance(ring, list)
        self.assertEqual(len(ring), size)
        self.assertEqual(ring_worth(web, ring), worth)
        return worth

    def test_by_hand(self):
        self.assertEqual(best_ring(WEB, 2), (7, [0, 1]))
        self.assertEqual(best_ring(WEB, 3), (8, [0, 1, 2]))
        self.assertIsNone(best_ring(WEB, 4))
        self.assertIsNone(best_ring(WEB, 5))

    def test_none(self):
        chance = random.Random(112)
        for many in range(1, 13):
            self.assertIsNone(best_ring((many, []), 2))
            # Arcs that all rise lead to no ring.
            arcs = [(start, end, 5) for start, end in itertools.combinations(range(many), 2)]
            web = (many, chance.sample(arcs, min(60, len(arcs))))
            for size in range(2, 8):
                self.assertIsNone(best_ring(web, size))

    def test_against_all_rings(self):
        chance = random.Random(113)
        seen, none = 0, 0
        for turn in range(60):
            web = some_web(chance, chance.randint(1, 8), chance.randint(0, 30), 9)
            for size in range(2, 8):
                good = max(rings_by_hand(web, size).values(), default=None)
                with self.subTest(web=web, size=size):
                    self.assertEqual(self.look(web, size), good)
                seen, none = seen + (good is not None and size > 3), none + (good is None)
        self.assertGreater(seen, 40)
        self.assertGreater(none, 40)

    def test_worths_all_below_0(self):
        web = (7, [(start, end, -1 - start * start - end) for start, end in itertools.permutations(range(7), 2)])
        for size in range(2, 8):
            self.assertEqual(self.look(web, size), max(rings_by_hand(web, size).values()))

    def test_the_worth_back_counts(self):
        web = (4, [(0, 1, 1), (1, 0, 1), (2, 3, 3), (3, 2, -9)])
        self.assertEqual(best_ring(web, 2), (2, [0, 1]))
        web = (4, [(0, 1, 1), (1, 0, 1), (2, 3, -3), (3, 2, 9)])
        self.assertEqual(best_ring(web, 2), (6, [2, 3]))

    def test_one_ring_at_each_least_place(self):
        for many in range(2, 8):
            for least in range(13 - many):
                places = [least] + list(range(least + 1, least + many))[::-1]
                web = (12, [(one, other, 2) for one, other in zip(places, places[1:] + places[:1])])
                for size in range(2, 8):
                    self.assertEqual(best_ring(web, size), (2 * many, places) if size == many else None)

    def test_twelve_places_with_sixty_arcs(self):
        web = full_web()
        for size in range(2, 8):
            self.assertEqual(self.look(web, size), max(rings_by_hand(web, size).values(), default=None))

    def test_many_sets_at_one_place(self):
        chance = random.Random(114)
        for turn in range(3):
            arcs = [(start, end) for start in range(7) for end in range(7) if start != end]
            arcs += [(start, 7) for start in range(7)] + [(7, end) for end in range(7)]
            web = (8, [(start, end, chance.randint(-20, 20)) for start, end in arcs])
            self.assertEqual(self.look(web, 7), max(rings_by_hand(web, 7).values()))

    def test_places_called_otherwise(self):
        chance = random.Random(115)
        for turn in range(15):
            many = chance.randint(2, 12)
            web = some_web(chance, many, chance.randint(1, 60), 9)
            names = chance.sample(range(many), many)
            other = moved_web(web, names)
            for size in range(2, 8):
                self.assertEqual(self.look(web, size), self.look(other, size))

    def test_two_webs_side_by_side(self):
        chance = random.Random(116)
        for turn in range(20):
            one = some_web(chance, chance.randint(1, 6), chance.randint(0, 25), 9)
            other = some_web(chance, chance.randint(1, 6), chance.randint(0, 25), 9)
            for size in range(2, 8):
                good = greater(self.look(one, size), self.look(other, size))
                self.assertEqual(self.look(side_by_side(one, other), size), good)

    def test_great_worths(self):
        web = (3, [(0, 1, 10 ** 59), (1, 2, 10 ** 59), (2, 0, -(10 ** 59)), (1, 0, 10 ** 59 - 1)])
        self.assertEqual(best_ring(web, 3), (10 ** 59, [0, 1, 2]))
        self.assertEqual(best_ring(web, 2), (2 * 10 ** 59 - 1, [0, 1]))

    def test_no_size(self):
        for size in wrong_lengths() + [1]:
            with self.subTest(repr(size)):
                with self.assertRaises(NoSize) as caught:
                    best_ring(WEB, size)
                self.assertIsInstance(caught.exception, LotError)
        for size in [0, 1, 8, True, None, "3", -1]:
            with self.assertRaises(NoSize):
                best_ring((1, []), size)

    def test_no_web_ahead_of_no_size(self):
        for web in wrong_webs():
            for size in [2, 7, 0, 1, 8, True, None, "3"]:
                with self.subTest((web, size)):
                    with self.assertRaises(NoWeb):
                        best_ring(web, size)

    def test_what_is_handed_in_stays_and_what_is_told_is_apart(self):
        web = copy.deepcopy(WEB)
        told = best_ring(web, 3)
        self.assertEqual(web, WEB)
        told[1].append(9)
        told[1][0] = None
        self.assertEqual(best_ring(web, 3), (8, [0, 1, 2]))
        other = best_ring(web, 3)
        web[1].clear()
        self.assertEqual(other, (8, [0, 1, 2]))
        self.assertIsNone(best_ring(web, 3))

    def test_machines_of_webs(self):
        """Rings with a least place are growths that begin and end there."""
        chance = random.Random(117)
        for turn in range(10):
            many = chance.randint(2, 6)
            web = some_web(chance, many, chance.randint(3, 30), 9)
            for size in range(2, 7):
                found = []
                for least in range(many):
                    steps = [(start, end, end, worth) for start, end, worth in web[1] if min(start, end) >= least]
                    machine = (many, [least], steps, [least])
                    told = best_growth(many, machine, size)
                    paper = growth_paper(many, machine, size)
                    self.assertIs(is_growth_paper(many, machine, size, paper), True)
                    self.assertEqual(growth_tells(machine, paper), None if told is None else told[0])
                    found.append(growth_tells(machine, paper))
                good = max([worth for worth in found if worth is not None], default=None)
                self.assertEqual(self.look(web, size), good)


if __name__ == "__main__":
    unittest.main()
