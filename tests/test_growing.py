import copy
import itertools
import random
import unittest

from fewstand.errors import NoMachine, NoSize
from fewstand.few import few_of
from fewstand.growing import best_growth, growth_paper
from fewstand.growthlook import growth_tells, is_growth_paper
from fewstand.machines import growth_worth
from fewstand.papers import paper_of
from tests.kinds import (best_by_hand, grown_by_hand, growth_worth_by_hand, growths_by_hand, is_paper_by_hand,
                         some_machine, wrong_lengths, wrong_machines)

STEPS = [(0, 1, 2, 5), (0, 0, 1, -3), (1, 1, 2, 4), (2, 3, 0, 0), (2, 0, 2, 7), (1, 3, 2, 11)]
MACHINE = (3, [0, 1], STEPS, [0, 2])


class BestGrowth(unittest.TestCase):
    def look(self, many, machine, size):
        told = best_growth(many, machine, size)
        if told is None:
            return None
        self.assertIsInstance(told, tuple)
        self.assertEqual(len(told), 2)
        self.assertIsInstance(told[1], list)
        self.assertEqual(growth_worth(many, machine, size, told[1]), told[0])
        return told[0]

    def test_by_hand(self):
        self.assertEqual(best_growth(4, MACHINE, 1), (11, [(3, 2)]))
        self.assertEqual(best_growth(4, MACHINE, 2), (18, [(3, 2), (0, 2)]))
        self.assertEqual(best_growth(4, MACHINE, 3), (12, [(1, 2), (0, 2), (3, 0)]))
        self.assertIsNone(best_growth(4, MACHINE, 4))

    def test_against_all_rows(self):
        chance = random.Random(61)
        seen = 0
        for turn in range(300):
            many, states = chance.randint(1, 5), chance.randint(1, 3)
            machine = some_machine(chance, many, states, chance.randint(0, 14))
            for size in range(1, 5):
                with self.subTest(many=many, machine=machine, size=size):
                    good = best_by_hand(machine, size)
                    self.assertEqual(self.look(many, machine, size), good)
                    seen += good is not None
        self.assertGreater(seen, 200)

    def test_against_all_rows_of_things_and_states(self):
        chance = random.Random(62)
        for turn in range(40):
            machine = some_machine(chance, 3, 2, chance.randint(4, 10))
            for size in range(1, 4):
                rows = [list(zip(things, states)) for things in itertools.permutations(range(3), size)
                        for states in itertools.product(range(2), repeat=size)]
                worths = [growth_worth_by_hand(machine, row) for row in rows]
                good = max((worth for worth in worths if worth is not None), default=None)
                self.assertEqual(self.look(3, machine, size), good)

    def test_all_sizes_and_more_than_the_ground_has_things(self):
        for many in [1, 3, 7, 9]:
            machine = (1, [0], [(0, thing, 0, thing * thing - 10) for thing in range(many)], [0])
            for size in range(1, 8):
                worths = sorted([thing * thing - 10 for thing in range(many)], reverse=True)
                good = sum(worths[:size]) if size <= many else None
                self.assertEqual(self.look(many, machine, size), good)

    def test_rows_that_take_a_thing_back_from_a_greedy_one(self):
        # The best first thing is wanted later, too: lots worth less must be carried along.
        steps = [(0, 0, 1, 9), (0, 1, 1, 1), (0, 2, 1, 0), (1, 0, 2, 50), (1, 3, 2, 2), (2, 1, 3, 40), (2, 4, 3, 3)]
        self.assertEqual(best_growth(5, (4, [0], steps, [3]), 3), (90, [(2, 1), (0, 2), (1, 3)]))

    def test_long_growths_with_unlike_things(self):
        """Ways through layers: the best one of so many unlike things is no row of the best steps."""
        chance = random.Random(63)
        for turn in range(6):
            many = chance.randint(7, 9)
            steps = [(state, thing, state + 1, chance.randint(-9, 9)) for state in range(7)
                     for thing in chance.sample(range(many), chance.randint(2, 4))]
            machine = (8, [0], steps, [7])
            self.assertEqual(self.look(many, machine, 7), best_by_hand(machine, 7))

    def test_on_the_greatest_ground(self):
        chance = random.Random(64)
        for states, size in [(1, 4), (4, 4), (12, 5)]:
            every = list(itertools.product(range(states), range(30), range(states)))
            steps = [step + (chance.randint(-99, 99),) for step in chance.sample(every, min(60, len(every)))]
            machine = (states, list(range(states)), steps, list(range(states)))
            if states > 1:
                self.assertEqual(self.look(30, machine, size), best_by_hand(machine, size))
            else:
                good = sum(sorted([step[3] for step in steps])[-size:])
                self.assertEqual(self.look(30, machine, size), good)

    def test_none_where_there_is_none(self):
        for machine in [(3, [], STEPS, [0, 2]), (3, [0, 1], STEPS, []), (3, [0, 1], [], [0, 1, 2]), (1, [], [], []),
                        (3, [2], [(0, 1, 2, 5)], [2]), (3, [0], [(0, 1, 2, 5)], [0])]:
            for size in range(1, 8):
                self.assertIsNone(best_growth(4, machine, size))
        # Steps enough, but always with the same thing.
        machine = (1, [0], [(0, 2, 0, 5)], [0])
        self.assertEqual(best_growth(4, machine, 1), (5, [(2, 0)]))
        self.assertIsNone(best_growth(4, machine, 2))

    def test_worths_below_0_of_0_and_great(self):
        machine = (1, [0], [(0, 0, 0, -7), (0, 1, 0, -2), (0, 2, 0, -30)], [0])
        self.assertEqual([self.look(3, machine, size) for size in range(1, 5)], [-2, -9, -39, None])
        self.assertEqual(best_growth(3, (1, [0], [(0, 0, 0, 0)], [0]), 1), (0, [(0, 0)]))
        machine = (1, [0], [(0, 0, 0, 10 ** 59), (0, 1, 0, 10 ** 59), (0, 2, 0, -(10 ** 59))], [0])
        self.assertEqual([self.look(3, machine, size) for size in range(1, 4)], [10 ** 59, 2 * 10 ** 59, 10 ** 59])

    def test_a_growth_come_to_by_several_rows_of_steps(self):
        steps = [(0, 0, 2, 1), (1, 0, 2, 9), (2, 1, 2, 1)]
        for begins, worth in [([0], 2), ([1], 10), ([0, 1], 10), ([0, 1, 2], 10)]:
            self.assertEqual(best_growth(2, (3, begins, steps, [2]), 2), (worth, [(0, 2), (1, 2)]))

    def test_things_called_otherwise(self):
        chance = random.Random(65)
        for turn in range(60):
            many, states = chance.randint(2, 7), chance.randint(1, 4)
            machine = some_machine(chance, many, states, 16)
            names = chance.sample(range(many), many)
            turned = machine[:2] + ([(start, names[thing], end, gain) for start, thing, end, gain in
                                     chance.sample(machine[2], len(machine[2]))],) + machine[3:]
            for size in range(1, 5):
                self.assertEqual(self.look(many, turned, size), self.look(many, machine, size))
                self.assertEqual(growth_tells(turned, growth_paper(many, turned, size)),
                                 growth_tells(machine, growth_paper(many, machine, size)))


class GrowthPaper(unittest.TestCase):
    def look(self, many, machine, size):
        """Each layer is told as the document has it, from the fews of the layer ahead."""
        told = growth_paper(many, machine, size)
        self.assertEqual(len(told), size + 1)
        self.assertEqual(told[0], [([((), 0)], []) if state in machine[1] else ([], []) for state in range(machine[0])])
        for count in range(1, size + 1):
            families = grown_by_hand(machine, [few for few, sums in told[count - 1]])
            self.assertEqual(len(told[count]), machine[0])
            for family, paper in zip(families, told[count]):
                self.assertIsInstance(paper, tuple)
                if len(family) <= 200:
                    self.assertEqual(paper, paper_of(many, count, size - count, family))
                    self.assertEqual(paper[0], few_of(many, count, size - count, family))
        self.assertIs(is_growth_paper(many, machine, size, told), True)
        return told

    def test_by_hand(self):
        machine = (2, [0], [(0, 0, 1, 3), (0, 1, 1, 4), (1, 0, 1, 5), (1, 2, 0, 6)], [1])
        self.assertEqual(growth_paper(3, machine, 2), [
            [([((), 0)], []), ([], [])],
            [([], []), ([((1,), 4), ((0,), 3)], [])],
            [([((1, 2), 10)], [((0, 2), [((1, 2), 2)])]), ([((0, 1), 9)], [])]])

    def test_small_machines(self):
        chance = random.Random(66)
        for turn in range(60):
            many, states, size = chance.randint(1, 6), chance.randint(1, 3), chance.randint(1, 4)
            machine = some_machine(chance, many, states, chance.randint(0, 20))
            with self.subTest(many=many, machine=machine, size=size):
                told = self.look(many, machine, size)
                self.assertEqual(growth_tells(machine, told), best_by_hand(machine, size))
                best = best_growth(many, machine, size)
                self.assertEqual(growth_tells(machine, told), None if best is None else best[0])

    def test_all_sizes(self):
        for machine in [MACHINE, (1, [], [], []), (12, [3, 11], [], [0]), (2, [0], [(0, 0, 1, 1), (1, 1, 0, 2)], [1])]:
            for size in range(1, 8):
                self.look(4, machine, size)

    def test_grown_families_of_more_than_200_lots(self):
        machine = (1, [0], [(0, thing, 0, (thing * 7) % 11 - 5) for thing in range(30)], [0])
        for size in [5, 7]:
            told = self.look(30, machine, size)
            lengths = [len(few) + len(sums) for layer in told for few, sums in layer]
            self.assertGreater(max(lengths), 200)
            good = sum(sorted([step[3] for step in machine[2]])[-size:])
            self.assertEqual(growth_tells(machine, told), good)
            self.assertEqual(best_growth(30, machine, size)[0], good)
        told = growth_paper(30, machine, 5)
        families = grown_by_hand(machine, [few for few, sums in told[2]])
        self.assertGreater(len(families[0]), 200)
        self.assertTrue(is_paper_by_hand(30, 3, 2, families[0], told[3][0]))

    def test_no_growth_is_worth_more(self):
        machine = some_machine(random.Random(67), 5, 3, 30)
        machine = (3, [0, 1, 2], machine[2], [0, 1, 2])
        for size in range(1, 5):
            tells = growth_tells(machine, growth_paper(5, machine, size))
            for row, worth in growths_by_hand(machine, size).items():
                self.assertEqual(growth_worth(5, machine, size, list(row)), worth)
                self.assertLessEqual(worth, tells)


class Refusals(unittest.TestCase):
    def test_no_machine_ahead_of_no_size(self):
        for machine, part in wrong_machines():
            for size in [1, 7, 0, 8, True, None, "ab"]:
                for asked in [best_growth, growth_paper]:
                    with self.subTest(repr(machine), size=size), self.assertRaises(NoMachine) as caught:
                        asked(4, machine, size)
                    self.assertEqual(caught.exception.part, part)

    def test_no_size(self):
        for machine in [MACHINE, (1, [], [], [])]:
            for size in wrong_lengths():
                for asked in [best_growth, growth_paper]:
                    with self.subTest(repr(size)), self.assertRaises(NoSize):
                        asked(4, machine, size)


class OwnLists(unittest.TestCase):
    def test_best_growth(self):
        machine = copy.deepcopy(MACHINE)
        told = best_growth(4, machine, 2)
        told[1].reverse()
        told[1].append(None)
        self.assertEqual(machine, MACHINE)
        again = best_growth(4, machine, 2)
        self.assertEqual(again, (18, [(3, 2), (0, 2)]))
        machine[2].clear()
        self.assertEqual(again, (18, [(3, 2), (0, 2)]))

    def test_growth_paper(self):
        machine = (1, [0], [(0, thing, 0, thing) for thing in range(5)], [0])
        before = copy.deepcopy(machine)
        told = growth_paper(5, machine, 2)
        good = copy.deepcopy(told)
        for layer in told:
            for few, sums in layer:
                for lot, parts in sums:
                    parts.clear()
                few.append(None)
                sums.clear()
            layer.append(None)
        told.clear()
        self.assertEqual(machine, before)
        again = growth_paper(5, machine, 2)
        self.assertEqual(again, good)
        machine[1].clear()
        machine[2].clear()
        self.assertEqual(again, good)

    def test_all_lists_within_are_unlike(self):
        for machine in [(4, [0, 2], [(0, 0, 1, 1), (2, 1, 3, 1)], [1]),
                        (2, [0, 1], [(0, thing, 0, thing) for thing in range(5)], [0])]:
            told = growth_paper(5, machine, 3)
            lists = [told] + told
            for layer in told:
                for few, sums in layer:
                    lists += [few, sums] + [parts for lot, parts in sums]
            self.assertEqual(len({id(one) for one in lists}), len(lists))


if __name__ == "__main__":
    unittest.main()
