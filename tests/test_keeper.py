import copy
import itertools
import random
import unittest
from unittest import mock

from fewstand.errors import LotError, NoLot, NoMove, NoNumber, NoSize, TooMany, Twice
from fewstand.few import few_of
from fewstand.keeper import Keeper
from fewstand.papers import is_paper, paper_of
from tests.kinds import no_whole_numbers, row_by_hand, stands_by_hand, things_of_other_kinds, wrong_sizes


def keeper_with(many, size, strangers, family):
    told = Keeper(many, size, strangers)
    for lot, worth in family:
        told.add(lot, worth)
    return told


def no_lots():
    """What is no lot of three things of a ground of seven, of every kind."""
    told = things_of_other_kinds() + [[0, 1, 2], [], "012", (0, 1), (0, 1, 2, 3), (0, 2, 1), (0, 1, 1), (0, 1, 7),
                                      (-1, 0, 1), (0, 1, 10 ** 40), ((0, 1, 2),), ((0, 1, 2), 5), {0, 1, 2}]
    told += [(0, 1, thing) for thing in no_whole_numbers()]
    return told + [(thing, 1, 2) for thing in no_whole_numbers()] + [(False, True, 2), (0, True, 2)]


class Looks(unittest.TestCase):
    """A keeper is looked at against a family that the test keeps for itself."""

    def look(self, keeper, many, size, strangers, family, moves):
        good = sorted(family.items())
        self.assertEqual(keeper.lots(), good)
        self.assertEqual(len(keeper), len(good))
        self.assertIsInstance(len(keeper), int)
        self.assertEqual(keeper.moves(), moves)
        few = few_of(many, size, strangers, good)
        paper = paper_of(many, size, strangers, good)
        self.assertEqual(keeper.few(), few)
        self.assertEqual(keeper.paper(), paper)
        self.assertIsInstance(keeper.paper(), tuple)
        self.assertIs(is_paper(many, size, strangers, good, keeper.paper()), True)
        sums = dict(paper[1])
        for lot in family:
            self.assertEqual(keeper.parts(lot), sums.get(lot, [(lot, 1)]))
        self.assertEqual([lot in sums for lot in family], [lot not in dict(few) for lot in family])


class Moves(Looks):
    def test_by_hand(self):
        keeper = Keeper(4, 1, 1)
        self.assertEqual((keeper.lots(), keeper.few(), keeper.paper(), keeper.moves(), len(keeper)), ([], [], ([], []), 0, 0))
        for thing, worth in [(3, 1), (0, 4), (2, 2), (1, 4)]:
            self.assertIsNone(keeper.add((thing,), worth))
        self.assertEqual(keeper.lots(), [((0,), 4), ((1,), 4), ((2,), 2), ((3,), 1)])
        self.assertEqual(keeper.few(), [((0,), 4), ((1,), 4)])
        self.assertEqual(keeper.parts((2,)), [((0,), 4), ((1,), 2)])
        self.assertEqual(keeper.parts((0,)), [((0,), 1)])
        self.assertEqual(keeper.paper(), ([((0,), 4), ((1,), 4)], [((2,), [((0,), 4), ((1,), 2)]), ((3,), [((0,), 3), ((1,), 3)])]))
        self.assertIsNone(keeper.drop((0,)))
        self.assertEqual(keeper.few(), [((1,), 4), ((2,), 2)])
        self.assertEqual((keeper.moves(), len(keeper)), (5, 3))
        self.assertIsNone(keeper.undo())
        self.assertEqual(keeper.few(), [((0,), 4), ((1,), 4)])
        self.assertEqual((keeper.moves(), len(keeper)), (4, 4))

    def test_rows_of_moves(self):
        chance = random.Random(141)
        for many, size, strangers in [(6, 2, 2), (5, 1, 1), (7, 3, 1), (6, 2, 0), (5, 0, 3), (8, 2, 3), (1, 1, 0), (30, 2, 1),
                                      (4, 4, 4), (9, 0, 8), (9, 8, 0)]:
            lots = list(itertools.combinations(range(many), size))
            keeper, family, behind = Keeper(many, size, strangers), {}, []
            for turn in range(35):
                deed = chance.choice(["add", "add", "add", "drop", "undo"])
                lot = chance.choice(lots)
                if deed == "add" and lot not in family:
                    behind.append(dict(family))
                    family[lot] = chance.randint(-4, 4)
                    self.assertIsNone(keeper.add(lot, family[lot]))
                if deed == "drop" and lot in family:
                    behind.append(dict(family))
                    del family[lot]
                    self.assertIsNone(keeper.drop(lot))
                if deed == "undo" and behind:
                    family = behind.pop()
                    self.assertIsNone(keeper.undo())
                self.look(keeper, many, size, strangers, family, len(behind))
            while behind:
                family = behind.pop()
                keeper.undo()
                self.look(keeper, many, size, strangers, family, len(behind))
            self.assertEqual(keeper.lots(), [])
            with self.assertRaises(NoMove):
                keeper.undo()

    def test_a_new_keeper_of_the_same_lots_tells_the_same(self):
        chance = random.Random(142)
        for turn in range(20):
            lots = chance.sample(list(itertools.combinations(range(7), 3)), 12)
            family = [(lot, chance.randint(-5, 5)) for lot in lots]
            keeper = keeper_with(7, 3, 2, family)
            for lot, worth in chance.sample(family, 5):
                keeper.drop(lot)
                keeper.add(lot, worth)
            other = keeper_with(7, 3, 2, chance.sample(family, len(family)))
            self.assertEqual((keeper.few(), keeper.paper()), (other.few(), other.paper()))
            self.assertIs(keeper == other, True)

    def test_the_few_stands_and_parts_add_up(self):
        chance = random.Random(143)
        keeper = Keeper(7, 2, 2)
        prime = 11
        for lot in chance.sample(list(itertools.combinations(range(7), 2)), 21):
            keeper.add(lot, chance.randint(0, 3))
            self.assertTrue(stands_by_hand(7, 2, keeper.lots(), keeper.few()))
            self.assertLessEqual(len(keeper.few()), 6)
            for one, worth in keeper.lots():
                parts = keeper.parts(one)
                rows = [(row_by_hand(7, 2, 2, part), share) for part, share in parts]
                total = [sum(row[at] * share for row, share in rows) % prime for at in range(6)]
                self.assertEqual(total, row_by_hand(7, 2, 2, one))

    def test_at_most_one_goes_out_and_at_most_one_comes_in(self):
        chance = random.Random(144)
        for size, strangers in [(2, 1), (2, 2), (1, 3), (3, 1)]:
            lots = list(itertools.combinations(range(7), size))
            keeper = Keeper(7, size, strangers)
            for turn in range(120):
                lot = chance.choice(lots)
                ahead = set(keeper.few())
                if lot in dict(keeper.lots()):
                    worth = dict(keeper.lots())[lot]
                    keeper.drop(lot)
                    behind = set(keeper.few())
                    self.assertLessEqual(len(behind - ahead), 1)
                    self.assertLessEqual(ahead - behind, {(lot, worth)})
                else:
                    worth = chance.randint(-9, 9)
                    keeper.add(lot, worth)
                    behind = set(keeper.few())
                    self.assertLessEqual(len(ahead - behind), 1)
                    self.assertLessEqual(behind - ahead, {(lot, worth)})

    def test_a_drop_undone(self):
        keeper = keeper_with(5, 2, 1, [((0, 1), 5), ((1, 2), -7)])
        keeper.drop((1, 2))
        self.assertEqual((keeper.lots(), keeper.moves()), ([((0, 1), 5)], 3))
        keeper.undo()
        self.assertEqual((keeper.lots(), keeper.moves()), ([((0, 1), 5), ((1, 2), -7)], 2))
        keeper.undo()
        self.assertEqual((keeper.lots(), keeper.moves()), ([((0, 1), 5)], 1))

    def test_worth_0_and_drops_undone_with_other_worths(self):
        keeper = Keeper(5, 2, 1)
        keeper.add((0, 1), 0)
        keeper.drop((0, 1))
        keeper.add((0, 1), 3)
        keeper.drop((0, 1))
        seen = []
        while keeper.moves():
            keeper.undo()
            seen.append(keeper.lots())
        self.assertEqual(seen, [[((0, 1), 3)], [], [((0, 1), 0)], []])

    def test_undo_is_no_move(self):
        keeper = keeper_with(5, 1, 1, [((0,), 5), ((1,), 5)])
        keeper.undo()
        self.assertEqual(keeper.moves(), 1)
        keeper.undo()
        self.assertEqual(keeper.moves(), 0)
        for turn in range(3):
            with self.assertRaises(NoMove) as caught:
                keeper.undo()
            self.assertIsInstance(caught.exception, LotError)
        self.assertEqual((keeper.moves(), keeper.lots()), (0, []))
        keeper.add((2,), 1)
        self.assertEqual((keeper.moves(), keeper.lots()), (1, [((2,), 1)]))

    def test_what_is_asked_is_no_move(self):
        keeper = keeper_with(5, 1, 1, [((0,), 5), ((1,), 5)])
        for turn in range(2):
            keeper.lots(), keeper.few(), keeper.paper(), keeper.parts((0,)), keeper.twin(), len(keeper), keeper == keeper
            self.assertEqual(keeper.moves(), 2)

    def test_great_worths(self):
        keeper = keeper_with(5, 1, 1, [((0,), 10 ** 59), ((1,), -(10 ** 59)), ((2,), 10 ** 59 - 1)])
        self.assertEqual(keeper.few(), [((0,), 10 ** 59), ((2,), 10 ** 59 - 1)])

    def test_two_hundred_lots(self):
        lots = list(itertools.combinations(range(30), 2))
        keeper = keeper_with(30, 2, 2, [(lot, sum(lot) % 7) for lot in lots[:200]])
        family = {lot: sum(lot) % 7 for lot in lots[:200]}
        self.look(keeper, 30, 2, 2, family, 200)
        with self.assertRaises(TooMany):
            keeper.add(lots[200], 5)
        keeper.drop(lots[7])
        keeper.add(lots[200], 5)
        with self.assertRaises(TooMany):
            keeper.add(lots[7], 5)
        self.assertEqual((len(keeper), keeper.moves()), (200, 202))
        keeper.undo()
        keeper.undo()
        self.look(keeper, 30, 2, 2, family, 200)


class Refusals(Looks):
    def test_sizes(self):
        for many, size, strangers in wrong_sizes():
            with self.subTest((repr(many), repr(size), repr(strangers))):
                with self.assertRaises(NoSize) as caught:
                    Keeper(many, size, strangers)
                self.assertIsInstance(caught.exception, LotError)
        for many, size, strangers in [(1, 0, 0), (30, 8, 0), (30, 0, 8), (1, 8, 0), (30, 4, 4), (1, 1, 7)]:
            self.assertEqual(Keeper(many, size, strangers).lots(), [])

    def unchanged(self, keeper, error, deed, *told):
        ahead = (keeper.lots(), keeper.few(), keeper.paper(), keeper.moves(), len(keeper))
        with self.assertRaises(error) as caught:
            deed(*told)
        self.assertIs(type(caught.exception), error)
        self.assertIsInstance(caught.exception, LotError)
        self.assertEqual((keeper.lots(), keeper.few(), keeper.paper(), keeper.moves(), len(keeper)), ahead)

    def test_no_lot(self):
        keeper = keeper_with(7, 3, 1, [((0, 1, 2), 5), ((1, 2, 3), 6)])
        for lot in no_lots():
            with self.subTest(repr(lot)):
                for worth in [5, 0, True, None, "5"]:
                    self.unchanged(keeper, NoLot, keeper.add, lot, worth)
                self.unchanged(keeper, NoLot, keeper.drop, lot)
                self.unchanged(keeper, NoLot, keeper.parts, lot)
        for lot in [(0, 1, 3), (4, 5, 6)]:
            self.unchanged(keeper, NoLot, keeper.drop, lot)
            self.unchanged(keeper, NoLot, keeper.parts, lot)

    def test_a_lot_that_went(self):
        keeper = keeper_with(7, 3, 1, [((0, 1, 2), 5), ((1, 2, 3), 6)])
        keeper.drop((0, 1, 2))
        self.unchanged(keeper, NoLot, keeper.drop, (0, 1, 2))
        self.unchanged(keeper, NoLot, keeper.parts, (0, 1, 2))
        keeper.undo()
        keeper.undo()
        self.unchanged(keeper, NoLot, keeper.drop, (1, 2, 3))

    def test_no_number_ahead_of_twice(self):
        keeper = keeper_with(7, 3, 1, [((0, 1, 2), 5)])
        for worth in no_whole_numbers():
            with self.subTest(repr(worth)):
                self.unchanged(keeper, NoNumber, keeper.add, (1, 2, 3), worth)
                self.unchanged(keeper, NoNumber, keeper.add, (0, 1, 2), worth)

    def test_twice(self):
        keeper = keeper_with(7, 3, 1, [((0, 1, 2), 5), ((1, 2, 3), 6)])
        for worth in [5, 6, 0, -1, 10 ** 40]:
            self.unchanged(keeper, Twice, keeper.add, (0, 1, 2), worth)
            self.unchanged(keeper, Twice, keeper.add, (1, 2, 3), worth)

    def test_several_due_at_once_with_two_hundred_lots(self):
        lots = list(itertools.combinations(range(12), 3))
        keeper = keeper_with(12, 3, 0, [(lot, 1) for lot in lots[:200]])
        self.unchanged(keeper, TooMany, keeper.add, lots[200], 5)
        self.unchanged(keeper, Twice, keeper.add, lots[0], 5)
        self.unchanged(keeper, Twice, keeper.add, lots[199], 5)
        self.unchanged(keeper, NoNumber, keeper.add, lots[200], None)
        self.unchanged(keeper, NoNumber, keeper.add, lots[0], True)
        self.unchanged(keeper, NoLot, keeper.add, (0, 1), None)
        self.unchanged(keeper, NoLot, keeper.add, (2, 1, 0), 5)
        self.unchanged(keeper, NoLot, keeper.drop, lots[200])
        keeper.undo()
        self.assertIsNone(keeper.add(lots[200], 5))
        self.assertEqual(len(keeper), 200)

    def test_the_lot_without_things(self):
        keeper = Keeper(3, 0, 2)
        self.unchanged(keeper, NoLot, keeper.drop, ())
        keeper.add((), -5)
        self.unchanged(keeper, Twice, keeper.add, (), -5)
        self.unchanged(keeper, NoLot, keeper.add, (0,), -5)
        self.assertEqual((keeper.lots(), keeper.few(), keeper.parts(())), ([((), -5)], [((), -5)], [((), 1)]))


class TwinsAndLikeness(Looks):
    def test_a_twin_goes_on_by_itself(self):
        family = {(0, 1): 5, (1, 2): 7, (2, 3): 4}
        keeper = keeper_with(5, 2, 1, list(family.items()) + [((3, 4), 9)])
        keeper.drop((3, 4))
        twin = keeper.twin()
        self.assertIsInstance(twin, Keeper)
        self.look(twin, 5, 2, 1, family, 5)
        self.assertIs(twin == keeper, True)
        twin.add((0, 4), 1)
        keeper.drop((0, 1))
        self.look(twin, 5, 2, 1, {**family, (0, 4): 1}, 6)
        self.look(keeper, 5, 2, 1, {(1, 2): 7, (2, 3): 4}, 6)
        self.assertIs(twin == keeper, False)
        while twin.moves():
            twin.undo()
        self.look(twin, 5, 2, 1, {}, 0)
        self.look(keeper, 5, 2, 1, {(1, 2): 7, (2, 3): 4}, 6)
        keeper.undo()
        keeper.undo()
        self.look(keeper, 5, 2, 1, {**family, (3, 4): 9}, 4)

    def test_a_twin_undoes_as_much(self):
        chance = random.Random(145)
        lots = list(itertools.combinations(range(6), 2))
        keeper = Keeper(6, 2, 2)
        seen = [keeper.lots()]
        for turn in range(20):
            lot = chance.choice(lots)
            if lot in dict(keeper.lots()):
                keeper.drop(lot)
            else:
                keeper.add(lot, turn)
            seen.append(keeper.lots())
        twin = keeper.twin()
        second = twin.twin()
        for good in seen[-2::-1]:
            twin.undo()
            self.assertEqual(twin.lots(), good)
        with self.assertRaises(NoMove):
            twin.undo()
        self.assertEqual((second.moves(), keeper.moves(), second.lots(), keeper.lots()), (20, 20, seen[-1], seen[-1]))

    def test_alike_whatever_was_moved(self):
        one = keeper_with(5, 2, 1, [((0, 1), 5), ((1, 2), 7)])
        other = keeper_with(5, 2, 1, [((1, 2), 7), ((3, 4), 1), ((0, 1), 5)])
        self.assertIs(one == other, False)
        self.assertIs(one != other, True)
        other.drop((3, 4))
        self.assertNotEqual(one.moves(), other.moves())
        self.assertIs(one == other, True)
        self.assertIs(other == one, True)
        self.assertIs(one != other, False)
        self.assertIs(one == one, True)
        self.assertIs(Keeper(3, 1, 1) == Keeper(3, 1, 1), True)

    def test_alike_whether_or_not_something_was_asked(self):
        one, other = keeper_with(5, 1, 1, [((0,), 5)]), keeper_with(5, 1, 1, [((0,), 5)])
        one.paper(), one.few(), one.parts((0,))
        self.assertIs(one == other, True)

    def test_other_grounds_sizes_strangers_and_families(self):
        one = Keeper(5, 2, 1)
        for sizes in [(6, 2, 1), (4, 2, 1), (5, 1, 1), (5, 3, 1), (5, 2, 0), (5, 2, 2), (5, 1, 2)]:
            self.assertIs(one == Keeper(*sizes), False)
            self.assertIs(one != Keeper(*sizes), True)
        one = keeper_with(5, 1, 1, [((0,), 5)])
        for family in [[], [((0,), 4)], [((1,), 5)], [((0,), 5), ((1,), 5)]]:
            self.assertIs(one == keeper_with(5, 1, 1, family), False)
            self.assertIs(keeper_with(5, 1, 1, family) != one, True)
        for sizes in [(6, 1, 1), (5, 1, 2), (5, 1, 0)]:
            self.assertIs(one == keeper_with(*sizes, [((0,), 5)]), False)

    def test_nothing_else_is_alike(self):
        keeper = keeper_with(5, 1, 1, [((0,), 5)])
        for thing in things_of_other_kinds() + no_whole_numbers() + [keeper.lots(), (5, 1, 1), [], [keeper], Keeper,
                                                                    {(0,): 5}, mock.ANY]:
            with self.subTest(repr(thing)):
                self.assertIs(keeper == thing, False)
                self.assertIs(keeper != thing, True)
                self.assertIs(Keeper(5, 1, 1) == thing, False)


class Apart(Looks):
    def test_what_is_told_is_the_askers_own(self):
        family = {(0,): 4, (1,): 4, (2,): 2, (3,): 1}
        keeper = keeper_with(4, 1, 1, list(family.items()))
        for turn in range(2):
            self.look(keeper, 4, 1, 1, family, 4)
            for told in [keeper.lots(), keeper.few(), keeper.paper()[0], keeper.paper()[1], keeper.parts((0,)), keeper.parts((3,))]:
                told[0] = None
                told.append(7)
            for lot, parts in keeper.paper()[1]:
                parts.clear()
            for lot, parts in keeper.paper()[1]:
                parts.append(None)
                parts[0] = 8
            twin = keeper.twin()
            twin.paper()[1][0][1].clear()
            self.look(keeper, 4, 1, 1, family, 4)
            self.look(twin, 4, 1, 1, family, 4)

    def test_what_was_told_stays(self):
        keeper = keeper_with(4, 1, 1, [((0,), 4), ((1,), 4), ((2,), 2)])
        told = [keeper.lots(), keeper.few(), keeper.paper(), keeper.parts((2,)), keeper.parts((0,))]
        good = copy.deepcopy(told)
        keeper.add((3,), 9)
        keeper.drop((0,))
        keeper.lots(), keeper.few(), keeper.paper(), keeper.parts((2,))
        keeper.undo()
        self.assertEqual(told, good)

    def test_all_told_lists_are_apart_from_one_another(self):
        keeper = keeper_with(4, 1, 1, [((0,), 4), ((1,), 4), ((2,), 2), ((3,), 1)])
        first, second = keeper.paper(), keeper.paper()
        lists = [first[0], second[0], first[1], second[1], keeper.lots(), keeper.lots(), keeper.few(), keeper.few()]
        lists += [parts for lot, parts in first[1]] + [parts for lot, parts in second[1]]
        lists += [keeper.parts((2,)), keeper.parts((2,)), keeper.parts((0,)), keeper.parts((0,))]
        self.assertEqual(len({id(one) for one in lists}), len(lists))

    def test_two_keepers_are_apart(self):
        one, other = Keeper(4, 1, 1), Keeper(4, 1, 1)
        one.add((0,), 4)
        self.assertEqual((other.lots(), other.moves()), ([], 0))
        with self.assertRaises(NoMove):
            other.undo()

    def test_methods_stand_in_the_class(self):
        for name in ["add", "drop", "undo", "lots", "few", "paper", "parts", "moves", "twin", "__len__", "__eq__"]:
            self.assertIn(name, vars(Keeper))


if __name__ == "__main__":
    unittest.main()
