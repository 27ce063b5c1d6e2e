"""EVENED, EVEN, and which LOADS END ALIKE."""

import random
from fractions import Fraction

from evenwheels.classes import class_sums, classes
from evenwheels.ends import end_alike, evened, is_even
from evenwheels.errors import BadLoad, BadMachine
from evenwheels.loads import added, beat, behind, empty, is_load, one_at, scaled
from evenwheels.machines import spots
from tests.support import (
    HALF_ROUND, LONELY, MACHINES, MOST_CELLS_ALONE, MOST_WHEELS_ALL, ONE_CELL, SEVERAL_LOTS, TWICE, TWO_WHEELS,
    WheelTest, holds_of, load_of, odd_things, plain_classes, random_load, some_machines, whole_load,
)


def plain_evened(machine, load):
    holds = holds_of(load)
    told = {}
    for members in plain_classes(machine):
        for spot in members:
            told[spot] = sum(holds[one] for one in members) / len(members)
    return load_of(machine, told)


def with_more(machine, load, spot, by):
    return added(machine, load, scaled(machine, one_at(machine, spot), by))


class Evened(WheelTest):
    def test_by_hand(self):
        self.assertEqual(evened(ONE_CELL, whole_load([7])), whole_load([7]))
        self.assertEqual(evened(LONELY, whole_load([5, 4, -3, 2, 1])), whole_load([5, 4, -3, 2, 1]))
        told = (((7, 2), (2, 1), (-3, 1)) * 2,)
        self.assertEqual(evened(HALF_ROUND, whole_load([1, 4, -6, 6, 0, 0])), told)
        told = (((21, 5),) * 2, ((21, 5),) * 3)
        self.assertEqual(evened(TWO_WHEELS, whole_load([1, 2], [5, 6, 7])), told)
        load = whole_load([1, 2, 4, 8], [16, 32, 64, 128, 256, 512])
        told = (((677, 5), (346, 5)) * 2, ((346, 5), (677, 5)) * 3)
        self.assertEqual(evened(TWICE, load), told)

    def test_fractions_and_negative_ones(self):
        load = (((1, 2), (-1, 3)), ((1, 6), (0, 1), (-7, 4)))
        mean = Fraction(1, 2) - Fraction(1, 3) + Fraction(1, 6) - Fraction(7, 4)
        self.assertEqual(mean / 5, Fraction(-17, 60))
        self.assertEqual(evened(TWO_WHEELS, load), (((-17, 60),) * 2, ((-17, 60),) * 3))

    def test_just_as_a_second_telling(self):
        chance = random.Random(40)
        for machine in some_machines():
            load = random_load(machine, chance)
            told = evened(machine, load)
            self.assertEqual(told, plain_evened(machine, load))
            self.assertTrue(is_load(machine, told))
            self.assert_fractions(told)

    def test_behind_a_beat_it_is_the_beat_of_it(self):
        chance = random.Random(41)
        for machine in some_machines():
            load = random_load(machine, chance)
            for _ in range(4):
                gone = beat(machine, load)
                self.assertEqual(evened(machine, gone), beat(machine, evened(machine, load)))
                load = gone

    def test_class_sums_stay_and_it_is_even(self):
        chance = random.Random(42)
        for machine in some_machines():
            load = random_load(machine, chance)
            told = evened(machine, load)
            self.assertEqual(class_sums(machine, told), class_sums(machine, load))
            self.assertIs(is_even(machine, told), True)
            self.assertEqual(evened(machine, told), told)


class IsEven(WheelTest):
    def test_by_hand(self):
        self.assertIs(is_even(ONE_CELL, whole_load([-2])), True)
        self.assertIs(is_even(LONELY, whole_load([1, 2, 3, 4, 5])), True)
        self.assertIs(is_even(HALF_ROUND, whole_load([1, 2, 3, 1, 2, 3])), True)
        self.assertIs(is_even(HALF_ROUND, whole_load([1, 2, 3, 1, 2, 4])), False)
        self.assertIs(is_even(HALF_ROUND, whole_load([1, 2, 3, 1, -2, 3])), False)
        self.assertIs(is_even(TWO_WHEELS, whole_load([4, 4], [4, 4, 4])), True)
        self.assertIs(is_even(TWO_WHEELS, whole_load([4, 4], [4, 5, 4])), False)
        self.assertIs(is_even(TWICE, whole_load([1, 2, 1, 2], [2, 1, 2, 1, 2, 1])), True)
        self.assertIs(is_even(TWICE, whole_load([1, 2, 1, 2], [1, 2, 1, 2, 1, 2])), False)
        self.assertIs(is_even(TWO_WHEELS, (((2, 3), (2, 3)), ((2, 3), (2, 3), (3, 2)))), False)

    def test_noughts_are_even(self):
        for machine in MACHINES:
            self.assertIs(is_even(machine, empty(machine)), True)

    def test_just_where_evening_changes_nothing(self):
        chance = random.Random(43)
        for machine in some_machines():
            load = random_load(machine, chance)
            self.assertIs(is_even(machine, load), plain_evened(machine, load) == load)
            even = evened(machine, load)
            for members in classes(machine):
                changed = with_more(machine, even, chance.choice(members), (1, 7))
                self.assertIs(is_even(machine, changed), len(members) == 1)

    def test_an_even_one_only_rolls_and_stays_even(self):
        chance = random.Random(44)
        for machine in some_machines():
            load = evened(machine, random_load(machine, chance))
            gone = beat(machine, load)
            self.assertEqual(gone, tuple(row[1:] + row[:1] for row in load))
            self.assertIs(is_even(machine, gone), True)


class EndAlike(WheelTest):
    def test_by_hand(self):
        one, other = whole_load([1, 2, 3, 4, 5, 6]), whole_load([4, 7, 9, 1, 0, 0])
        self.assertIs(end_alike(HALF_ROUND, one, other), True)
        self.assertIs(end_alike(HALF_ROUND, one, whole_load([5, 7, 9, 0, 0, 0])), True)
        self.assertIs(end_alike(HALF_ROUND, one, whole_load([7, 5, 9, 0, 0, 0])), False)
        self.assertIs(end_alike(HALF_ROUND, one, whole_load([5, 7, 8, 0, 0, 0])), False)
        self.assertIs(end_alike(LONELY, whole_load([1, 2, 3, 4, 5]), whole_load([1, 2, 3, 5, 4])), False)
        self.assertIs(end_alike(TWO_WHEELS, whole_load([1, 2], [3, 4, 5]), whole_load([0, 0], [-1, 16, 0])), True)

    def test_just_where_all_class_sums_are_the_same(self):
        chance = random.Random(45)
        for machine in some_machines():
            load = random_load(machine, chance)
            class_at = {spot: number for number, members in enumerate(plain_classes(machine)) for spot in members}
            self.assertIs(end_alike(machine, load, load), True)
            self.assertIs(end_alike(machine, load, evened(machine, load)), True)
            self.assertIs(end_alike(machine, load, random_load(machine, chance)), False)
            for _ in range(6):
                one, other = chance.choice(spots(machine)), chance.choice(spots(machine))
                changed = with_more(machine, with_more(machine, load, one, (2, 3)), other, (-2, 3))
                self.assertIs(end_alike(machine, load, changed), class_at[one] == class_at[other])
                self.assertIs(end_alike(machine, changed, load), class_at[one] == class_at[other])

    def test_each_spot_comes_close_to_the_mean(self):
        chance = random.Random(46)
        for machine in (TWO_WHEELS, TWICE, HALF_ROUND, SEVERAL_LOTS):
            load = random_load(machine, chance)
            far = behind(machine, load, 240)
            for row, beside in zip(far, behind(machine, evened(machine, load), 240)):
                for worth, mean in zip(row, beside):
                    self.assertLess(abs(Fraction(*worth) - Fraction(*mean)), Fraction(1, 10 ** 6))


class Refused(WheelTest):
    def setUp(self):
        self.load = whole_load([1, 2], [3, 4, 5])
        self.bad = whole_load([1, 2], [3, 4])
        self.worse = (((1, 1), (1, 1)), ((1, 1), (2, 4), None))

    def test_bad_loads(self):
        for call in (evened, is_even):
            self.assert_place(BadLoad, None, call, TWO_WHEELS, self.bad)
            self.assert_place(BadLoad, (1, 1), call, TWO_WHEELS, self.worse)
            for thing in odd_things():
                self.assert_place(BadLoad, None, call, TWO_WHEELS, thing)
        for thing in odd_things():
            self.assert_place(BadLoad, None, end_alike, TWO_WHEELS, thing, self.load)
            self.assert_place(BadLoad, None, end_alike, TWO_WHEELS, self.load, thing)

    def test_the_first_ones_ahead_of_the_others(self):
        self.assert_place(BadLoad, (1, 1), end_alike, TWO_WHEELS, self.worse, self.bad)
        self.assert_place(BadLoad, None, end_alike, TWO_WHEELS, self.bad, self.worse)
        self.assert_place(BadLoad, (1, 1), end_alike, TWO_WHEELS, self.load, self.worse)

    def test_no_machine_ahead_of_all(self):
        for thing in odd_things() + [((0,), ()), ((2, 3), [])]:
            for call in (evened, is_even):
                with self.assertRaises(BadMachine):
                    call(thing, None)
            with self.assertRaises(BadMachine):
                end_alike(thing, None, None)
        self.assert_place(BadMachine, "touches", evened, ((1,), []), None)
        self.assert_place(BadMachine, "counts", is_even, ((), ()), None)
        self.assert_place(BadMachine, None, end_alike, None, None, None)

    def test_by_names_and_told_again(self):
        self.assertEqual(evened(machine=ONE_CELL, load=whole_load([3])), whole_load([3]))
        self.assertIs(is_even(machine=ONE_CELL, load=whole_load([3])), True)
        self.assertIs(end_alike(machine=ONE_CELL, load=whole_load([3]), other=whole_load([2])), False)
        chance = random.Random(47)
        for machine in MACHINES + [MOST_CELLS_ALONE, MOST_WHEELS_ALL]:
            load, other = random_load(machine, chance), random_load(machine, chance)
            self.assert_told_again(evened, machine, load)
            self.assert_told_again(is_even, machine, load)
            self.assert_told_again(end_alike, machine, load, other)
