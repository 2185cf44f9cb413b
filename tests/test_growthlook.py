import copy
import random
import unittest

from fewstand.errors import NoMachine, NoSize
from fewstand.growing import best_growth, growth_paper
from fewstand.growthlook import growth_tells, is_growth_paper
from tests.kinds import (best_by_hand, changed, grown_by_hand, is_paper_by_hand, no_whole_numbers, other_paper, places,
                         some_machine, taken, things_of_other_kinds, wrong_lengths, wrong_machines)

# Over the prime 5: (2,) is left out in layer 1, (0, 2) in layer 2, where (0, 1) is come to by two ways.
MACHINE = (2, [0], [(0, 0, 1, 3), (0, 1, 1, 4), (0, 2, 1, 2), (1, 0, 1, 5), (1, 2, 0, 6), (1, 1, 1, 1)], [1])
PAPER = [
    [([((), 0)], []), ([], [])],
    [([], []), ([((1,), 4), ((0,), 3)], [((2,), [((0,), 4), ((1,), 2)])])],
    [([((1, 2), 10)], [((0, 2), [((1, 2), 2)])]), ([((0, 1), 9)], [])]]


def whole_paper(machine, size):
    """Nothing is left out anywhere."""
    fews = [[((), 0)] if state in machine[1] else [] for state in range(machine[0])]
    layers = [fews]
    for turn in range(size):
        fews = grown_by_hand(machine, fews)
        layers.append(fews)
    return [[(few, []) for few in layer] for layer in layers]


def paper_by_chance(chance, many, machine, size):
    """Other fews than the told ones in each layer, each with right sums."""
    told = whole_paper(machine, size)[:1]
    for count in range(1, size + 1):
        families = grown_by_hand(machine, [few for few, sums in told[-1]])
        told.append([other_paper(chance, many, count, size - count, family) for family in families])
    return told


def is_growth_paper_by_hand(many, machine, size, paper):
    """Of what has the kinds of a paper of growth."""
    if [len(layer) for layer in paper] != [machine[0]] * (size + 1) or paper[0] != whole_paper(machine, 0)[0]:
        return False
    for count in range(1, size + 1):
        families = grown_by_hand(machine, [few for few, sums in paper[count - 1]])
        if not all(is_paper_by_hand(many, count, size - count, family, one)
                   for family, one in zip(families, paper[count])):
            return False
    return True


class IsGrowthPaper(unittest.TestCase):
    def good(self, thing):
        self.assertIs(is_growth_paper(4, MACHINE, 2, thing), True)

    def wrong(self, thing):
        self.assertIs(is_growth_paper(4, MACHINE, 2, thing), False)

    def test_the_told_one(self):
        self.good(PAPER)
        self.assertEqual(growth_paper(4, MACHINE, 2), PAPER)
        self.assertEqual(growth_tells(MACHINE, PAPER), 9)

    def test_told_ones_of_small_machines(self):
        chance = random.Random(71)
        for turn in range(80):
            many, states, size = chance.randint(1, 6), chance.randint(1, 3), chance.randint(1, 4)
            machine = some_machine(chance, many, states, chance.randint(0, 20))
            told = growth_paper(many, machine, size)
            with self.subTest(many=many, machine=machine, size=size):
                self.assertIs(is_growth_paper(many, machine, size, told), True)
                self.assertTrue(is_growth_paper_by_hand(many, machine, size, told))
                self.assertEqual(growth_tells(machine, told), best_by_hand(machine, size))
                other = size - 1 if size > 1 else 5
                self.assertIs(is_growth_paper(many, machine, other, told), False)

    def test_layer_0(self):
        told = growth_paper(4, MACHINE, 2)
        for state, wrong in [(0, ([], [])), (0, ([((), 1)], [])), (0, ([((), -1)], [])), (0, ([((), 0)], [((), [])])),
                             (0, ([((), False)], [])), (0, ([((), 0), ((), 0)], [])), (0, ([], [((), [((), 1)])])),
                             (0, ([([], 0)], [])), (0, ([[(), 0]], [])), (0, ([((0,), 0)], [])), (0, ([((), 0)], ())),
                             (1, ([((), 0)], [])), (1, ([], [((), [])])), (1, ((), [])), (1, ([],)), (1, [[], []])]:
            with self.subTest(state=state, wrong=wrong):
                self.wrong(changed(told, (0, state), wrong))
        # With begins otherwise the same paper is none.
        for begins in [[], [1], [0, 1]]:
            machine = (2, begins) + MACHINE[2:]
            self.assertIs(is_growth_paper(4, machine, 2, told), False)
            self.assertIs(is_growth_paper(4, machine, 2, growth_paper(4, machine, 2)), True)

    def test_layers_and_states_more_or_less_or_in_another_order(self):
        told = growth_paper(4, MACHINE, 2)
        for thing in [told[:-1], told[1:], told + told[-1:], told[:1] + told, told + [[]], told[::-1], [], [[]],
                      [told[0], told[2], told[1]], told + [None], told + [[([], []), ([], [])]]]:
            self.wrong(thing)
        for at in range(3):
            layer = told[at]
            for other in [layer[:1], layer[1:], layer + layer[:1], layer + [([], [])], layer + [None], layer[::-1],
                          [], [None] + layer]:
                self.wrong(changed(told, (at,), other))
        self.good(told)

    def test_each_few_otherwise(self):
        told = growth_paper(4, MACHINE, 2)
        for at in range(3):
            for state in range(2):
                few, sums = told[at][state]
                for other in [few[1:] if few else [((0,) * at, 0)], few + few if few else None,
                              few + [((3, 4, 5)[:at], 1)], [(lot, worth + 1) for lot, worth in few] + [None],
                              [(lot, worth + 1) for lot, worth in few] if few else [None],
                              [(lot, worth - 1) for lot, worth in few] if few else [()], tuple(few)]:
                    self.wrong(changed(told, (at, state, 0), other))

    def test_lots_of_the_ground_that_have_not_grown(self):
        told = growth_paper(4, MACHINE, 2)
        self.wrong(changed(told, (1, 0, 0), [((0,), 3)]))
        self.wrong(changed(told, (1, 1, 0), told[1][1][0] + [((3,), 1)]))
        self.wrong(changed(told, (2, 1, 0), told[2][1][0] + [((2, 3), 1)]))

    def test_a_right_few_with_another_layer_behind(self):
        """The whole layer 1 is good, but layer 2 then has other worths and lots grown."""
        machine = (1, [0], [(0, thing, 0, thing) for thing in range(5)], [0])
        told, whole = growth_paper(5, machine, 3), whole_paper(machine, 3)
        self.assertIs(is_growth_paper(5, machine, 3, told), True)
        self.assertIs(is_growth_paper(5, machine, 3, whole), True)
        for at in range(2, 4):
            self.assertIs(is_growth_paper(5, machine, 3, told[:at] + whole[at:]), False)
            self.assertIs(is_growth_paper(5, machine, 3, whole[:at] + told[at:]), False)

    def test_kinds_at_each_place(self):
        told = growth_paper(4, MACHINE, 2)
        kinds = things_of_other_kinds() + no_whole_numbers() + [[None], (0, 0), ((), ()), (None, None)]
        for at in places(told):
            one = taken(told, at)
            for thing in kinds:
                if repr(thing) != repr(one):
                    with self.subTest(at=at, thing=repr(thing)):
                        self.wrong(changed(told, at, thing))
            if isinstance(one, (list, tuple)):
                self.wrong(changed(told, at, tuple(one) if isinstance(one, list) else list(one)))
                self.wrong(changed(told, at, one + one[:1] if one else one + type(one)([0])))
            elif one in (0, 1):
                self.wrong(changed(told, at, bool(one)))
            else:
                self.wrong(changed(told, at, one + 1))
                self.wrong(changed(told, at, one - 1))

    def test_sums_otherwise(self):
        told = growth_paper(4, MACHINE, 2)
        seen = 0
        for at in places(told):
            # A row of parts, or of sums, has the number 1 behind the layer and the state.
            if len(at) in (3, 5) and at[2] == 1 and isinstance(taken(told, at), list) and taken(told, at):
                one = taken(told, at)
                for other in [[], one[1:], one[:-1], one + one]:
                    self.wrong(changed(told, at, other))
                if len(one) > 1:
                    self.wrong(changed(told, at, one[::-1]))
                seen += 1
        self.assertGreater(seen, 2)

    def test_another_order_of_the_few_is_good(self):
        told = growth_paper(4, MACHINE, 2)
        self.assertGreater(len(told[1][1][0]), 1)
        self.good(changed(told, (1, 1, 0), told[1][1][0][::-1]))

    def test_other_fews_with_right_sums(self):
        chance = random.Random(72)
        seen = 0
        for turn in range(80):
            many, states, size = chance.randint(2, 6), chance.randint(1, 3), chance.randint(1, 4)
            machine = some_machine(chance, many, states, chance.randint(4, 20))
            told = growth_paper(many, machine, size)
            for paper in [paper_by_chance(chance, many, machine, size), whole_paper(machine, size)]:
                with self.subTest(many=many, machine=machine, size=size):
                    self.assertTrue(is_growth_paper_by_hand(many, machine, size, paper))
                    self.assertIs(is_growth_paper(many, machine, size, paper), True)
                    self.assertEqual(growth_tells(machine, paper), best_by_hand(machine, size))
                    seen += paper != told
        self.assertGreater(seen, 60)

    def test_what_is_let_by_tells_the_best_worth(self):
        """Good papers, changed by chance: whatever is let by is one by hand, too, and tells what is so."""
        chance = random.Random(73)
        seen = [0, 0]
        for turn in range(400):
            many, states, size = chance.randint(2, 4), chance.randint(1, 2), chance.randint(1, 3)
            machine = some_machine(chance, many, states, chance.randint(4, 12))
            paper = copy.deepcopy(paper_by_chance(chance, many, machine, size))
            layer = chance.randrange(size + 1)
            few, sums = chance.choice(paper[layer])
            lists = [few, sums] + [parts for lot, parts in sums]
            lists = [one for one in lists if one]
            if not lists:
                continue
            one = chance.choice(lists)
            way = chance.randrange(4)
            if way == 0:
                chance.shuffle(one)
            elif way == 1:
                one.pop(chance.randrange(len(one)))
            elif way == 2 and one is not sums:
                at = chance.randrange(len(one))
                one[at] = (one[at][0], one[at][1] + chance.choice([-1, 1]))
            elif way == 3:
                one.append(chance.choice(one))
            good = is_growth_paper_by_hand(many, machine, size, paper)
            with self.subTest(many=many, machine=machine, paper=paper):
                self.assertIs(is_growth_paper(many, machine, size, paper), good)
                if good:
                    self.assertEqual(growth_tells(machine, paper), best_by_hand(machine, size))
            seen[good] += 1
        self.assertGreater(min(seen), 50)

    def test_grown_families_of_more_than_200_lots(self):
        machine = (1, [0], [(0, thing, 0, (thing * 5) % 9 - 4) for thing in range(12)], [0])
        paper = whole_paper(machine, 4)
        self.assertEqual([len(layer[0][0]) for layer in paper], [1, 12, 66, 220, 495])
        self.assertIs(is_growth_paper(12, machine, 4, paper), True)
        self.assertEqual(growth_tells(machine, paper), best_growth(12, machine, 4)[0])
        few = paper[3][0][0]
        self.assertIs(is_growth_paper(12, machine, 4, changed(paper, (3, 0, 0), few[1:])), False)
        self.assertIs(is_growth_paper(12, machine, 4, changed(paper, (4, 0, 0), paper[4][0][0][:200])), False)
        told = growth_paper(12, machine, 4)
        mixed = paper[:3] + [[other_paper(random.Random(74), 12, 3, 1, few)]]
        families = grown_by_hand(machine, [few for few, sums in mixed[-1]])
        mixed.append([other_paper(random.Random(75), 12, 4, 0, family) for family in families])
        self.assertIs(is_growth_paper(12, machine, 4, mixed), True)
        self.assertEqual(growth_tells(machine, mixed), growth_tells(machine, told))

    def test_things_of_every_kind(self):
        for thing in things_of_other_kinds() + no_whole_numbers() + [tuple(PAPER), {"a": PAPER}, [PAPER], "paper"]:
            with self.subTest(repr(thing)):
                self.wrong(thing)


class GrowthTells(unittest.TestCase):
    def test_ordinary(self):
        for ends, tells in [([], None), ([0], 10), ([1], 9), ([0, 1], 10)]:
            self.assertEqual(growth_tells(MACHINE[:3] + (ends,), PAPER), tells)

    def test_none_where_the_fews_at_the_ends_are_empty(self):
        for machine in [(3, [], MACHINE[2], [0, 1, 2]), (3, [0, 1, 2], MACHINE[2], [2]), (1, [0], [], [0]),
                        (2, [0], MACHINE[2], [])]:
            for size in range(1, 8):
                paper = growth_paper(4, machine, size)
                self.assertIs(is_growth_paper(4, machine, size, paper), True)
                self.assertIsNone(growth_tells(machine, paper))
                self.assertIsNone(best_growth(4, machine, size))

    def test_worths_of_0_and_below(self):
        machine = (1, [0], [(0, 0, 0, 0), (0, 1, 0, -3)], [0])
        self.assertEqual(growth_tells(machine, growth_paper(2, machine, 1)), 0)
        self.assertEqual(growth_tells(machine, growth_paper(2, machine, 2)), -3)

    def test_fews_of_several_lots_in_any_order(self):
        machine = (1, [0], [(0, thing, 0, thing - 2) for thing in range(4)], [0])
        paper = [[([((), 0)], [])], [([((1,), -1), ((3,), 1), ((0,), -2), ((2,), 0)], [])]]
        self.assertIs(is_growth_paper(4, machine, 1, paper), True)
        self.assertEqual(growth_tells(machine, paper), 1)


class Refusals(unittest.TestCase):
    def test_no_machine_ahead_of_no_size(self):
        for machine, part in wrong_machines():
            for size in [1, 7, 0, 8, True, None, "ab"]:
                for thing in [None, PAPER]:
                    with self.subTest(repr(machine), size=size), self.assertRaises(NoMachine) as caught:
                        is_growth_paper(4, machine, size, thing)
                    self.assertEqual(caught.exception.part, part)

    def test_no_size(self):
        for size in wrong_lengths():
            for thing in [None, PAPER, []]:
                with self.subTest(repr(size)), self.assertRaises(NoSize):
                    is_growth_paper(4, MACHINE, size, thing)

    def test_nothing_is_changed(self):
        machine, paper = copy.deepcopy(MACHINE), growth_paper(4, MACHINE, 2)
        before = copy.deepcopy(paper)
        self.assertIs(is_growth_paper(4, machine, 2, paper), True)
        self.assertEqual(growth_tells(machine, paper), 9)
        self.assertEqual((machine, paper), (MACHINE, before))
        paper[2][1][0].clear()
        self.assertIs(is_growth_paper(4, machine, 2, paper), False)
        self.assertIs(is_growth_paper(4, machine, 2, before), True)


if __name__ == "__main__":
    unittest.main()
