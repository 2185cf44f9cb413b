import copy
import itertools
import unittest

from fewstand.errors import LotError, NoWeb
from fewstand.webs import look_at_web
from tests.kinds import no_whole_numbers, things_of_other_kinds

ARCS = [(0, 1, 5), (1, 0, 5), (2, 1, -3), (0, 2, 0)]


class LookAtWeb(unittest.TestCase):
    def refused(self, thing):
        with self.assertRaises(NoWeb) as caught:
            look_at_web(thing)
        self.assertIsInstance(caught.exception, LotError)

    def test_good_ones(self):
        for thing in [(3, ARCS), (3, []), (1, []), (12, []), (12, [(11, 0, 1), (0, 11, 1)]), (3, ARCS[::-1]),
                      (2, [(0, 1, 10 ** 59), (1, 0, -(10 ** 59))]), (4, [(3, 2, 0)])]:
            with self.subTest(thing):
                self.assertIsNone(look_at_web(thing))

    def test_no_arcs_sixty_and_sixty_one(self):
        arcs = [(start, end, 1) for start, end in itertools.permutations(range(12), 2)]
        for count in [0, 1, 59, 60]:
            self.assertIsNone(look_at_web((12, arcs[:count])))
        for count in [61, 62, 132]:
            self.refused((12, arcs[:count]))

    def test_places(self):
        for many in range(1, 13):
            self.assertIsNone(look_at_web((many, [])))
            last = many - 1
            self.refused((many, [(many, last, 1)]))
            self.refused((many, [(last, many, 1)]))
            if many > 1:
                self.assertIsNone(look_at_web((many, [(0, last, 1)])))
        for many in no_whole_numbers() + [0, 13, 14, -1, 10 ** 40, -(10 ** 40)]:
            with self.subTest(repr(many)):
                self.refused((many, []))

    def test_arcs_from_a_place_to_itself(self):
        for place in range(3):
            self.refused((3, [(place, place, 1)]))
            self.refused((3, ARCS + [(place, place, 1)]))

    def test_arcs_beyond_the_places(self):
        for arc in [(0, 3, 1), (3, 0, 1), (-1, 0, 1), (0, -1, 1), (3, 4, 1), (10 ** 40, 0, 1)]:
            for at in range(len(ARCS) + 1):
                self.refused((3, ARCS[:at] + [arc] + ARCS[at:]))

    def test_arcs_twice(self):
        for start, end, worth in ARCS:
            self.refused((3, ARCS + [(start, end, worth)]))
            self.refused((3, ARCS + [(start, end, worth + 1)]))
            self.refused((3, [(start, end, worth + 1)] + ARCS))

    def test_kinds_within_arcs(self):
        for thing in no_whole_numbers():
            with self.subTest(repr(thing)):
                self.refused((3, [(1, 2, thing)]))
                self.refused((3, [(thing, 2, 1)]))
                self.refused((3, [(2, thing, 1)]))
                self.refused((3, ARCS + [(1, 2, thing)]))

    def test_arcs_of_other_kinds(self):
        for arc in things_of_other_kinds() + [[], [1, 2, 1], (1, 2), (1, 2, 1, 1), ((1, 2), 1), (1, (2, 1)), "121"]:
            with self.subTest(repr(arc)):
                self.refused((3, [arc]))
                self.refused((3, ARCS + [arc]))

    def test_lists_of_arcs_of_other_kinds(self):
        for arcs in things_of_other_kinds() + [tuple(ARCS), {(0, 1): 5}, (0, 1, 5), iter(ARCS)]:
            with self.subTest(repr(arcs)):
                self.refused((3, arcs))

    def test_webs_of_other_kinds(self):
        for thing in things_of_other_kinds() + [[], [3, ARCS], (3,), (3, ARCS, 0), (ARCS, 3), (3, ARCS, []), ARCS,
                                                (None, None), {3: 1, 4: 2}, "ab", b"ab"]:
            with self.subTest(repr(thing)):
                self.refused(thing)

    def test_nothing_is_changed_or_kept(self):
        web = (3, copy.deepcopy(ARCS))
        look_at_web(web)
        self.assertEqual(web, (3, ARCS))
        web[1].append((0, 1, 7))
        self.refused(web)
        web[1].pop()
        self.assertIsNone(look_at_web(web))


if __name__ == "__main__":
    unittest.main()
