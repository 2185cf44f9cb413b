import copy
import itertools
import random
import unittest

from fewstand.errors import NoMachine, NoSize
from fewstand.machines import growth_worth, look_at_machine
from tests.kinds import (growth_worth_by_hand, no_whole_numbers, some_machine, things_of_other_kinds, wrong_lengths,
                         wrong_machines)

STEPS = [(0, 1, 2, 5), (0, 0, 1, -3), (1, 1, 2, 4), (2, 3, 0, 0), (2, 0, 2, 7), (1, 3, 2, 10 ** 59)]
MACHINE = (3, [0, 1], STEPS, [0, 2])


class LookAtMachine(unittest.TestCase):
    def test_good_ones(self):
        for thing in [MACHINE, (1, [], [], []), (1, [0], [(0, 0, 0, 0)], [0]), (12, list(range(12)), [], [11]),
                      (3, [0, 2], STEPS[:3], []), (3, [], STEPS, [1]), (3, [1], [], [1]),
                      (2, [0], [(0, 1, 1, 5), (0, 1, 0, 5), (0, 2, 1, 5), (1, 1, 1, 5)], [1]),
                      (1, [0], [(0, 3, 0, -(10 ** 59))], [0])]:
            with self.subTest(thing):
                self.assertIsNone(look_at_machine(4, thing))

    def test_sixty_steps(self):
        steps = [(start, by, end, -1) for start in range(4) for by in range(4) for end in range(4)]
        self.assertIsNone(look_at_machine(4, (4, [0], steps[:60], [1])))
        with self.assertRaises(NoMachine) as caught:
            look_at_machine(4, (4, [0], steps[:61], [1]))
        self.assertEqual(caught.exception.part, 2)

    def test_grounds_of_1_and_of_30(self):
        self.assertIsNone(look_at_machine(1, (1, [0], [(0, 0, 0, 1)], [0])))
        self.assertIsNone(look_at_machine(30, (1, [0], [(0, 29, 0, 1)], [0])))
        for many in [1, 29]:
            with self.assertRaises(NoMachine) as caught:
                look_at_machine(many, (1, [0], [(0, many, 0, 1)], [0]))
            self.assertEqual(caught.exception.part, 2)

    def test_each_wrong_one_by_its_part(self):
        for thing, part in wrong_machines():
            with self.subTest(repr(thing)), self.assertRaises(NoMachine) as caught:
                look_at_machine(4, thing)
            self.assertEqual(caught.exception.part, part)

    def test_each_part_wrong_in_each_way(self):
        lists = [thing for thing in things_of_other_kinds() + no_whole_numbers() if not isinstance(thing, list)]
        states = [[3], [-1], [1, 0], [1, 1], [0, 1, 2, 3], [0, 2, 1], [True], [False], [0, True], [None], ["0"],
                  [[0]], [(0,)], [0.0], [0, None], (0, 1), {0: 0}, "01", [10 ** 40]] + lists
        steps = [(0, 1, 2), (0, 1, 2, 3, 4), [0, 1, 2, 3], (3, 1, 2, 0), (-1, 1, 2, 0), (0, 4, 2, 0), (0, -1, 2, 0),
                 (0, 1, 3, 0), (0, 1, -1, 0), (0, 1, 2, 6), (2, 0, 2, 7), ()]
        for wrong in no_whole_numbers():
            steps += [(wrong, 2, 1, 0), (0, wrong, 1, 0), (0, 2, wrong, 0), (0, 2, 1, wrong), wrong]
        for part, ways in [(0, no_whole_numbers() + [0, -1, 13, 14, 10 ** 40]), (1, states), (3, states),
                           (2, lists + [tuple(STEPS)] + [STEPS + [step] for step in steps]
                            + [[step] + STEPS for step in steps])]:
            for way in ways:
                thing = MACHINE[:part] + (way,) + MACHINE[part + 1:]
                with self.subTest(part=part, way=repr(way)), self.assertRaises(NoMachine) as caught:
                    look_at_machine(4, thing)
                self.assertEqual(caught.exception.part, part)

    def test_the_first_wrong_part(self):
        wrong = (0, [2, 1], [None], [None])
        for held in itertools.product([False, True], repeat=4):
            thing = tuple(bad if is_bad else good for good, bad, is_bad in zip(MACHINE, wrong, held))
            if not any(held):
                self.assertIsNone(look_at_machine(4, thing))
                continue
            with self.subTest(held), self.assertRaises(NoMachine) as caught:
                look_at_machine(4, thing)
            self.assertEqual(caught.exception.part, held.index(True))

    def test_fewer_states_than_parts_name(self):
        with self.assertRaises(NoMachine) as caught:
            look_at_machine(4, (1, [0], STEPS, [2]))
        self.assertEqual(caught.exception.part, 2)
        with self.assertRaises(NoMachine) as caught:
            look_at_machine(4, (1, [0], [], [2]))
        self.assertEqual(caught.exception.part, 3)

    def test_other_kinds_and_lengths(self):
        for thing in things_of_other_kinds() + no_whole_numbers() + [MACHINE[:3], MACHINE + (0,), MACHINE + ([],),
                                                                     list(MACHINE), MACHINE[1:], (None,) * 5]:
            with self.subTest(repr(thing)), self.assertRaises(NoMachine) as caught:
                look_at_machine(4, thing)
            self.assertIsNone(caught.exception.part)


class GrowthWorth(unittest.TestCase):
    def test_ordinary(self):
        for growth, worth in [([(1, 2)], 5), ([(0, 2)], None), ([(3, 2)], 10 ** 59), ([(0, 1)], None),
                              ([(0, 1), (1, 2)], 1), ([(0, 1), (3, 2)], 10 ** 59 - 3), ([(1, 2), (0, 2)], 12),
                              ([(1, 2), (3, 0)], 5), ([(0, 1), (1, 2), (3, 0)], 1), ([(1, 2), (0, 2), (3, 0)], 12),
                              ([(1, 2), (3, 0), (0, 1)], None)]:
            with self.subTest(growth):
                self.assertEqual(growth_worth(4, MACHINE, len(growth), growth), worth)

    def test_several_begins_tell_the_best(self):
        steps = [(0, 0, 2, 1), (1, 0, 2, 9), (3, 0, 2, 50), (2, 1, 2, -20)]
        for begins, worth in [([0], 1), ([1], 9), ([0, 1], 9), ([0, 1, 3], 50), ([2], None), ([], None), ([2, 3], 50)]:
            with self.subTest(begins):
                self.assertEqual(growth_worth(2, (4, begins, steps, [2]), 1, [(0, 2)]), worth)
                after = None if worth is None else worth - 20
                self.assertEqual(growth_worth(2, (4, begins, steps, [2]), 2, [(0, 2), (1, 2)]), after)

    def test_the_end_is_the_last_states(self):
        steps = [(0, 0, 1, 3), (1, 1, 0, 4)]
        for ends, one, two in [([], None, None), ([0], None, 7), ([1], 3, None), ([0, 1], 3, 7)]:
            self.assertEqual(growth_worth(2, (2, [0], steps, ends), 1, [(0, 1)]), one)
            self.assertEqual(growth_worth(2, (2, [0], steps, ends), 2, [(0, 1), (1, 0)]), two)

    def test_worths_of_0_and_below(self):
        self.assertEqual(growth_worth(2, (1, [0], [(0, 0, 0, 0)], [0]), 1, [(0, 0)]), 0)
        self.assertEqual(growth_worth(2, (1, [0], [(0, 0, 0, -4), (0, 1, 0, -5)], [0]), 2, [(1, 0), (0, 0)]), -9)

    def test_against_all_rows_of_steps(self):
        chance = random.Random(51)
        seen = 0
        for turn in range(250):
            many, size = chance.randint(1, 4), chance.randint(1, 3)
            machine = some_machine(chance, many, chance.randint(1, 3), chance.randint(0, 20))
            pairs = list(itertools.product(range(many), range(machine[0])))
            for row in itertools.product(pairs, repeat=size):
                if chance.random() < 0.6:
                    good = growth_worth_by_hand(machine, list(row))
                    seen += good is not None
                    self.assertEqual(growth_worth(many, machine, size, list(row)), good)
        self.assertGreater(seen, 500)

    def test_things_twice(self):
        machine = (1, [0], [(0, thing, 0, 1) for thing in range(3)], [0])
        self.assertEqual(growth_worth(3, machine, 3, [(0, 0), (2, 0), (1, 0)]), 3)
        for row in [[(0, 0), (0, 0), (1, 0)], [(0, 0), (1, 0), (0, 0)], [(1, 0), (0, 0), (0, 0)]]:
            self.assertIsNone(growth_worth(3, machine, 3, row))

    def test_the_longest_one(self):
        machine = (1, [0], [(0, thing, 0, thing) for thing in range(8)], [0])
        growth = [(thing, 0) for thing in range(7)]
        self.assertEqual(growth_worth(8, machine, 7, growth), 21)
        self.assertIsNone(growth_worth(8, machine, 7, growth + [(7, 0)]))
        self.assertIsNone(growth_worth(8, machine, 6, growth))
        self.assertIsNone(growth_worth(8, machine, 7, growth[:6]))
        self.assertEqual(growth_worth(8, machine, 1, growth[:1]), 0)
        self.assertIsNone(growth_worth(8, machine, 1, []))

    def test_what_is_no_growth_of_every_kind(self):
        good = [(0, 1), (1, 2)]
        self.assertEqual(growth_worth(4, MACHINE, 2, good), 1)
        wrong = things_of_other_kinds() + no_whole_numbers()
        for thing in wrong + [tuple(good), (0, 1), [good], [0, 1]]:
            with self.subTest(repr(thing)):
                self.assertIsNone(growth_worth(4, MACHINE, 2, thing))
        wrong += [(0,), (0, 1, 2), [0, 1], (0, True), (False, 1), (True, 2), (1, 2.0), ("1", 2), (1, "2"), (None, 1),
                  (1, None), ([1], 2), (1, [2]), (1, 3), (4, 2), (-1, 2), (1, -1), (10 ** 40, 2), (1, {}), ({}, 1)]
        for thing in wrong:
            with self.subTest(repr(thing)):
                self.assertIsNone(growth_worth(4, MACHINE, 2, [thing, good[1]]))
                self.assertIsNone(growth_worth(4, MACHINE, 2, [good[0], thing]))
                self.assertIsNone(growth_worth(4, MACHINE, 1, [thing]))


class Refusals(unittest.TestCase):
    def test_no_machine_ahead_of_no_size(self):
        for machine, part in wrong_machines():
            for size in [1, 7, 0, 8, None, True, "ab"]:
                for thing in [[(0, 0)], None]:
                    with self.subTest(repr(machine)), self.assertRaises(NoMachine) as caught:
                        growth_worth(4, machine, size, thing)
                    self.assertEqual(caught.exception.part, part)

    def test_no_size(self):
        for size in wrong_lengths():
            for thing in [[(1, 2)], [], None]:
                with self.subTest(repr(size)), self.assertRaises(NoSize):
                    growth_worth(4, MACHINE, size, thing)

    def test_all_good_sizes(self):
        for size in range(1, 8):
            self.assertIsNone(growth_worth(4, MACHINE, size, []))

    def test_nothing_is_changed(self):
        machine, growth = copy.deepcopy(MACHINE), [(0, 1), (1, 2)]
        self.assertIsNone(look_at_machine(4, machine))
        self.assertEqual(growth_worth(4, machine, 2, growth), 1)
        self.assertEqual((machine, growth), (MACHINE, [(0, 1), (1, 2)]))
        machine[2].clear()
        self.assertIsNone(growth_worth(4, machine, 2, growth))


if __name__ == "__main__":
    unittest.main()
