import copy
import itertools
import random
import unittest

from fewstand.errors import NoFamily, NoSize
from fewstand.few import few_of
from fewstand.numbers import is_whole
from fewstand.papers import is_paper, paper_of
from fewstand.standing import stands
from tests.kinds import (added, changed, is_paper_by_hand, least_prime, no_whole_numbers, other_paper, places,
                         row_by_hand, some_family, stands_by_hand, taken, things_of_other_kinds, wrong_sizes)


# Over the prime 5, with rows [1, t]: 2 is 4 times 0 and 2 times 1, 3 is 3 times 0 and 3 times 1.
FAMILY = [((3,), 1), ((0,), 4), ((2,), 2), ((1,), 4)]
PAPER = ([((0,), 4), ((1,), 4)], [((2,), [((0,), 4), ((1,), 2)]), ((3,), [((0,), 3), ((1,), 3)])])


class PaperOf(unittest.TestCase):
    def test_by_hand(self):
        self.assertEqual(paper_of(4, 1, 1, FAMILY), PAPER)
        self.assertEqual(paper_of(4, 1, 0, FAMILY),
                         ([((0,), 4)], [((1,), [((0,), 1)]), ((2,), [((0,), 1)]), ((3,), [((0,), 1)])]))
        self.assertEqual(paper_of(4, 1, 3, FAMILY), ([((0,), 4), ((1,), 4), ((2,), 2), ((3,), 1)], []))

    def test_few_in_its_order_sums_and_parts_by_lots(self):
        family = [((0,), 1), ((1,), 2), ((2,), 3), ((3,), 0)]
        told = paper_of(4, 1, 1, family)
        self.assertEqual(told[0], [((2,), 3), ((1,), 2)])
        self.assertEqual([lot for lot, parts in told[1]], [(0,), (3,)])
        self.assertEqual(told[1][0][1], [((1,), 2), ((2,), 4)])

    def test_families_of_none_and_sizes_of_0(self):
        for size in range(9):
            for strangers in range(9 - size):
                told = paper_of(5, size, strangers, [])
                self.assertEqual(told, ([], []))
                self.assertIsInstance(told, tuple)
        for strangers in range(9):
            self.assertEqual(paper_of(5, 0, strangers, [((), -2)]), ([((), -2)], []))

    def test_told_papers_against_sums_by_hand(self):
        chance = random.Random(31)
        for turn in range(120):
            many, size, strangers = chance.randint(1, 8), chance.randint(0, 3), chance.randint(0, 3)
            family = some_family(chance, many, size, chance.randint(0, 14), chance.choice([0, 1, 20]))
            with self.subTest(many=many, size=size, strangers=strangers, family=family):
                told = paper_of(many, size, strangers, family)
                self.assertEqual(told[0], few_of(many, size, strangers, family))
                self.assertTrue(is_paper_by_hand(many, size, strangers, family, told))
                self.assertIs(is_paper(many, size, strangers, family, told), True)
                self.assertIs(is_paper(many, size, strangers, list(reversed(family)), told), True)
                self.assertTrue(all(is_whole(share) for lot, parts in told[1] for part, share in parts))

    def test_great_ones(self):
        chance = random.Random(32)
        for many, size, strangers in [(30, 4, 4), (30, 3, 5), (30, 1, 7), (30, 7, 1), (30, 8, 0), (24, 5, 3)]:
            lots = [tuple(sorted(chance.sample(range(many), size))) for turn in range(260)]
            family = [(lot, chance.randint(-9, 9)) for lot in list(dict.fromkeys(lots))[:200]]
            told = paper_of(many, size, strangers, family)
            self.assertEqual(told[0], few_of(many, size, strangers, family))
            self.assertIs(is_paper(many, size, strangers, family, told), True)
            lot, parts = told[1][-1]
            self.assertEqual(added(least_prime(many + strangers), many, size, strangers, parts),
                             row_by_hand(many, size, strangers, lot))


class IsPaper(unittest.TestCase):
    def good(self, thing, family=None, strangers=1):
        self.assertIs(is_paper(4, 1, strangers, FAMILY if family is None else family, thing), True)

    def wrong(self, thing, family=None, strangers=1):
        self.assertIs(is_paper(4, 1, strangers, FAMILY if family is None else family, thing), False)

    def test_another_order(self):
        few, sums = PAPER
        self.good(PAPER)
        self.good((few[::-1], sums))
        self.wrong((few, sums[::-1]))
        for at in range(2):
            self.wrong(changed(PAPER, (1, at, 1), sums[at][1][::-1]))
        self.wrong((sums, few))

    def test_shares(self):
        for at in range(2):
            for part in range(2):
                share = PAPER[1][at][1][part][1]
                for other in [0, 1, 2, 3, 4, 5, share - 5, share + 5, share + 10, -1, 10 ** 40]:
                    thing = changed(PAPER, (1, at, 1, part, 1), other)
                    self.assertIs(is_paper(4, 1, 1, FAMILY, thing), other == share)

    def test_shares_of_0_and_of_the_prime_that_add_up(self):
        family = [((0,), 4), ((1,), 4), ((2,), 4)]
        few = family[:2]
        self.good((family, []), family)
        self.good((few, [((2,), [((0,), 4), ((1,), 2)])]), family)
        # With 0 strangers each row is [1], so one part will do, and one more with the share 0 or 5 would add up.
        prime = least_prime(4)
        self.good((few, [((2,), [((0,), 1)])]), family, 0)
        self.good((few, [((2,), [((1,), 1)])]), family, 0)
        self.good((few, [((2,), [((0,), 2), ((1,), prime - 1)])]), family, 0)
        for share in [0, prime, -prime, 2 * prime, False]:
            self.wrong((few, [((2,), [((0,), 1), ((1,), share)])]), family, 0)
            self.wrong((few, [((2,), [((0,), share), ((1,), 1)])]), family, 0)
        self.wrong((few, [((2,), [((0,), prime + 1)])]), family, 0)
        self.wrong((few, [((2,), [((0,), 1 - prime)])]), family, 0)
        self.wrong((few, [((2,), [((0,), 3), ((0,), 3)])]), family, 0)

    def test_true_is_no_1(self):
        self.wrong(changed(PAPER, (0, 1, 0, 0), True))
        self.wrong(changed(PAPER, (0, 0, 0, 0), False))
        self.wrong(changed(PAPER, (1, 0, 1, 1, 0, 0), True))
        self.wrong(changed(PAPER, (1, 0, 1, 0, 0, 0), False))
        family = [((0,), 1), ((1,), 1), ((2,), 0)]
        self.good(([((0,), 1)], [((1,), [((0,), 1)]), ((2,), [((0,), 1)])]), family, 0)
        self.wrong(([((0,), True)], [((1,), [((0,), 1)]), ((2,), [((0,), 1)])]), family, 0)
        self.wrong(([((0,), 1)], [((1,), [((0,), True)]), ((2,), [((0,), 1)])]), family, 0)
        self.wrong(([((0,), 1)], [((True,), [((0,), 1)]), ((2,), [((0,), 1)])]), family, 0)

    def test_lots_worth_less(self):
        family = [((0,), 4), ((1,), 2), ((2,), 3)]
        sums = [((0,), 4), ((1,), 2)]
        self.wrong(([((0,), 4), ((1,), 2)], [((2,), sums)]), family)
        for worth in [3, 4, 7]:
            more = [((0,), 4), ((1,), worth), ((2,), 3)]
            self.good((more[:2], [((2,), sums)]), more)
        self.wrong(([((1,), 2)], [((0,), [((1,), 1)]), ((2,), [((1,), 1)])]), family, 0)
        self.wrong(([((2,), 3)], [((0,), [((2,), 1)]), ((1,), [((2,), 1)])]), family, 0)
        self.good(([((0,), 4)], [((1,), [((0,), 1)]), ((2,), [((0,), 1)])]), family, 0)

    def test_lots_left_out_or_twice(self):
        few, sums = PAPER
        for thing in [(few[:1], sums), (few[1:], sums), ([], sums), (few, sums[:1]), (few, sums[1:]), (few, []),
                      (few + few[:1], sums), (few + few, sums), (few, sums + sums[1:]), (few, sums[:1] + sums),
                      (few, sums[:1] + sums[:1]), (few, sums[1:] + sums[1:]), (few + [((2,), 2)], sums),
                      (few + [((3,), 1)], sums), (few + [((4,), 1)], sums), ([((0,), 4), ((1,), 3)], sums),
                      (few, [((0,), [((0,), 1)])] + sums), ([], [])]:
            with self.subTest(thing):
                self.wrong(thing)
        self.good((few + [((2,), 2)], sums[1:]))
        self.good(([((3,), 1)] + few, sums[:1]))
        self.good((FAMILY, []))

    def test_parts_left_out_or_twice_or_not_of_the_few(self):
        for at in range(2):
            lot, parts = PAPER[1][at]
            for other in [parts[:1], parts[1:], [], parts + parts, parts + [parts[1]], [parts[0]] + parts,
                          parts + [((3,), 1)], [((2,), 1)], [((3,), 1)], [(lot, 1)], parts + [(lot, 1)]]:
                self.wrong(changed(PAPER, (1, at, 1), other))
        # Of a lot of the family that the few has not: its row would add up.
        self.wrong(([((0,), 4), ((1,), 4)], [((2,), [((0,), 4), ((1,), 2)]), ((3,), [((0,), 2), ((2,), 4)])]))
        self.good(([((0,), 4), ((1,), 4), ((2,), 2)], [((3,), [((0,), 2), ((2,), 4)])]))

    def test_lists_for_tuples_and_tuples_for_lists(self):
        for at in places(PAPER):
            one = taken(PAPER, at)
            if isinstance(one, (list, tuple)):
                self.wrong(changed(PAPER, at, tuple(one) if isinstance(one, list) else list(one)))

    def test_things_of_every_kind_at_each_place(self):
        kinds = things_of_other_kinds() + no_whole_numbers() + [[None], [[]], (0, 0), ((), ()), ([], []), (None, None)]
        for at in places(PAPER):
            for thing in kinds:
                if repr(thing) == repr(taken(PAPER, at)):
                    continue
                with self.subTest(at=at, thing=repr(thing)):
                    self.wrong(changed(PAPER, at, thing))

    def test_more_or_less_within_each_tuple(self):
        for at in places(PAPER):
            one = taken(PAPER, at)
            if isinstance(one, tuple):
                for other in [one + (None,), one + (0,), one + ([],), one[:-1], one[1:], ()]:
                    self.wrong(changed(PAPER, at, other))
            if isinstance(one, list):
                for other in [one + [None], one + [()], [None] + one, one + [[]]]:
                    self.wrong(changed(PAPER, at, other))

    def test_numbers_otherwise_at_each_place(self):
        for at in places(PAPER):
            one = taken(PAPER, at)
            if isinstance(one, int):
                for other in [one - 1, one + 1, -one - 1, one + 5, one - 5, 30, 10 ** 50, float(one), str(one)]:
                    with self.subTest(at=at, other=other):
                        self.wrong(changed(PAPER, at, other))

    def test_families_of_none(self):
        self.assertIs(is_paper(4, 2, 2, [], ([], [])), True)
        for thing in [([((0, 1), 1)], []), ([], [((0, 1), [])]), ([], ()), ((), []), [[], []], ([],), ([], [], []),
                      None, [], ()]:
            self.assertIs(is_paper(4, 2, 2, [], thing), False)
        self.assertIs(is_paper(4, 0, 2, [((), 3)], ([((), 3)], [])), True)
        for thing in [([], [((), [])]), ([], []), ([((), 3)], [((), [])]), ([((), 3)], [((), [((), 1)])]),
                      ([((), 2)], [])]:
            self.assertIs(is_paper(4, 0, 2, [((), 3)], thing), False)

    def test_other_fews_with_right_sums_stand(self):
        """All parts of small families, with all sums that can be, against what is reckoned by hand."""
        chance = random.Random(33)
        seen = 0
        for turn in range(12):
            many, size, strangers = chance.choice([(3, 1, 1), (3, 2, 0), (4, 1, 1), (2, 1, 1), (4, 2, 0)])
            family = some_family(chance, many, size, 4, 1)
            prime = least_prime(many + strangers)
            told = few_of(many, size, strangers, family)
            for count in range(len(family) + 1):
                for few in itertools.combinations(family, count):
                    few = chance.sample(few, count)
                    for sums in all_sums(prime, family, few):
                        good = is_paper_by_hand(many, size, strangers, family, (few, sums))
                        self.assertIs(is_paper(many, size, strangers, family, (few, sums)), good)
                        if good:
                            self.assertTrue(stands_by_hand(many, strangers, family, few))
                            self.assertIs(stands(many, size, strangers, family, few), True)
                            seen += sorted(few) != sorted(told)
        self.assertGreater(seen, 20)

    def test_other_fews_of_greater_families(self):
        chance = random.Random(34)
        seen = 0
        for turn in range(60):
            many, size, strangers = chance.randint(5, 8), chance.randint(1, 3), chance.randint(1, 3)
            family = some_family(chance, many, size, 16, 2)
            few, sums = other_paper(chance, many, size, strangers, family)
            with self.subTest(family=family, few=few):
                self.assertTrue(is_paper_by_hand(many, size, strangers, family, (few, sums)))
                self.assertIs(is_paper(many, size, strangers, family, (few, sums)), True)
                self.assertIs(stands(many, size, strangers, family, few), True)
                seen += few != few_of(many, size, strangers, family)
        self.assertGreater(seen, 20)


def all_sums(prime, family, few):
    """Each lot left out with all parts of the few and all shares."""
    lots = sorted(lot for lot, worth in few)
    left = sorted(lot for lot, worth in family if lot not in lots)
    parts = [[(lot, share) for lot, share in zip(lots, shares) if share]
             for shares in itertools.product(range(prime), repeat=len(lots))]
    if len(parts) ** len(left) > 3000:
        return
    for some in itertools.product(parts, repeat=len(left)):
        yield [(lot, list(one)) for lot, one in zip(left, some)]


class Refusals(unittest.TestCase):
    def test_no_size_ahead_of_no_family(self):
        for sizes in wrong_sizes():
            for family in [[], None, [None], [((0, 1), 3)]]:
                with self.subTest(repr(sizes), family=family):
                    with self.assertRaises(NoSize):
                        paper_of(*sizes, family)
                    with self.assertRaises(NoSize):
                        is_paper(*sizes, family, ([], []))
                    with self.assertRaises(NoSize):
                        is_paper(*sizes, family, None)

    def test_no_family_whatever_the_paper(self):
        for family, at in [(None, None), ((), None), ("ab", None), ({}, None), ([((0,), 1)] * 201, None), ([None], 0),
                           ([((0,), 1), ((0,), 2)], 1), ([((0,), 1), ((1,), True)], 1), ([((0,), 1), ((4,), 1)], 1)]:
            with self.subTest(repr(family)[:40]):
                with self.assertRaises(NoFamily) as caught:
                    paper_of(4, 1, 1, family)
                self.assertEqual(caught.exception.at, at)
                for thing in [([], []), None, PAPER]:
                    with self.assertRaises(NoFamily) as caught:
                        is_paper(4, 1, 1, family, thing)
                    self.assertEqual(caught.exception.at, at)

    def test_bounds_that_are_good(self):
        for sizes in [(1, 0, 0), (30, 0, 0), (30, 8, 0), (30, 0, 8), (30, 4, 4)]:
            self.assertEqual(paper_of(*sizes, []), ([], []))
            self.assertIs(is_paper(*sizes, [], ([], [])), True)


class OwnLists(unittest.TestCase):
    def test_told_lists_are_the_askers_own(self):
        family = list(FAMILY)
        told = paper_of(4, 1, 1, family)
        told[1][0][1].clear()
        told[1][1][1].append(None)
        told[0].clear()
        told[1].clear()
        self.assertEqual(family, FAMILY)
        again = paper_of(4, 1, 1, family)
        self.assertEqual(again, PAPER)
        family.clear()
        self.assertEqual(again, PAPER)

    def test_all_lists_within_are_unlike(self):
        for family in [FAMILY, []]:
            for told in [paper_of(4, 1, 1, family), paper_of(4, 1, 0, family)]:
                lists = [told[0], told[1]] + [parts for lot, parts in told[1]]
                self.assertEqual(len({id(one) for one in lists}), len(lists))
                self.assertNotIn(id(family), [id(one) for one in lists])

    def test_what_is_looked_at_stays(self):
        family, paper = copy.deepcopy(FAMILY), copy.deepcopy(PAPER)
        self.assertIs(is_paper(4, 1, 1, family, paper), True)
        self.assertEqual((family, paper), (FAMILY, PAPER))
        paper[1][0][1][0] = ((0,), 3)
        self.assertIs(is_paper(4, 1, 1, family, paper), False)


if __name__ == "__main__":
    unittest.main()
