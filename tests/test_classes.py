"""CLASSES and what each holds together."""

import random

from evenwheels.classes import class_of, class_sums, classes
from evenwheels.errors import BadLoad, BadMachine, BadSpot
from evenwheels.fractions import total
from evenwheels.loads import behind, beat, empty, held
from evenwheels.machines import spots
from evenwheels.shifts import g_of
from evenwheels.web import lots
from tests.support import (
    HALF_ROUND, LONELY, MACHINES, ONE_CELL, SEVERAL_LOTS, TWICE, TWO_WHEELS, WheelTest, odd_things, random_load,
    some_machines, whole_load,
)


def names_of(machine):
    """All classes by their pairs, in the order in which they are told."""
    return [(number, k) for number, lot in enumerate(lots(machine)) for k in range(g_of(machine, lot[0]))]


class ClassOf(WheelTest):
    def test_by_hand(self):
        self.assertEqual([class_of(LONELY, (0, place)) for place in range(5)], [(0, place) for place in range(5)])
        told = [(0, 0), (0, 1), (0, 2), (0, 0), (0, 1), (0, 2)]
        self.assertEqual([class_of(HALF_ROUND, (0, place)) for place in range(6)], told)
        self.assertEqual([class_of(TWICE, (1, place)) for place in range(3)], [(0, 1), (0, 0), (0, 1)])
        self.assertEqual(class_of(SEVERAL_LOTS, (2, 0)), (0, 2))
        self.assertEqual(class_of(SEVERAL_LOTS, (4, 0)), (1, 3))
        self.assertEqual(class_of(SEVERAL_LOTS, (4, 6)), (1, 1))
        self.assertEqual(class_of(SEVERAL_LOTS, (3, 1)), (2, 1))

    def test_both_spots_of_a_touch_are_of_one(self):
        for machine in some_machines():
            for one, other in machine[1]:
                self.assertEqual(class_of(machine, one), class_of(machine, other))

    def test_what_rolls_comes_to_one_less(self):
        for machine in some_machines():
            found = lots(machine)
            for wheel, place in spots(machine):
                number, name = class_of(machine, (wheel, place))
                self.assertIn(wheel, found[number])
                rolled = (wheel, (place - 1) % machine[0][wheel])
                self.assertEqual(class_of(machine, rolled), (number, (name - 1) % g_of(machine, wheel)))

    def test_place_nought_of_a_first_wheel_is_nought(self):
        for machine in some_machines():
            for number, lot in enumerate(lots(machine)):
                self.assertEqual(class_of(machine, (lot[0], 0)), (number, 0))

    def test_no_spots(self):
        for thing in odd_things() + [(0, 4), (2, 0), (-1, 0), [0, 0], (False, 0), (0, True), (0, 0, 0)]:
            self.assert_place(BadSpot, None, class_of, TWICE, thing)


class Classes(WheelTest):
    def test_by_hand(self):
        self.assertEqual(classes(ONE_CELL), (((0, 0),),))
        self.assertEqual(classes(HALF_ROUND), (((0, 0), (0, 3)), ((0, 1), (0, 4)), ((0, 2), (0, 5))))
        self.assertEqual(classes(TWO_WHEELS), (((0, 0), (0, 1), (1, 0), (1, 1), (1, 2)),))
        told = (((0, 0), (0, 2), (1, 1), (1, 3), (1, 5)), ((0, 1), (0, 3), (1, 0), (1, 2), (1, 4)))
        self.assertEqual(classes(TWICE), told)
        told = (((0, 0), (2, 1), (2, 4)), ((0, 1), (2, 2), (2, 5)), ((0, 2), (2, 0), (2, 3)),
                ((1, 0), (4, 1), (4, 5)), ((1, 1), (4, 2), (4, 6)), ((1, 2), (4, 3), (4, 7)), ((1, 3), (4, 0), (4, 4)),
                ((3, 0),), ((3, 1),))
        self.assertEqual(classes(SEVERAL_LOTS), told)

    def test_rising_and_all_told(self):
        for machine in some_machines():
            told = classes(machine)
            self.assertIs(type(told), tuple)
            self.assertEqual(sorted(spot for members in told for spot in members), list(spots(machine)))
            self.assertEqual(len(told), len(names_of(machine)))
            for name, members in zip(names_of(machine), told):
                self.assertIs(type(members), tuple)
                self.assertEqual(list(members), sorted(members))
                self.assertEqual({class_of(machine, spot) for spot in members}, {name})

    def test_of_one_size_of_each_wheel_as_many(self):
        for machine in some_machines():
            for (number, _), members in zip(names_of(machine), classes(machine)):
                lot = lots(machine)[number]
                for wheel in lot:
                    many = sum(spot[0] == wheel for spot in members)
                    self.assertEqual(many, machine[0][wheel] // g_of(machine, wheel))
                self.assertEqual(len(members), sum(machine[0][wheel] for wheel in lot) // g_of(machine, lot[0]))


class ClassSums(WheelTest):
    def test_by_hand(self):
        load = whole_load([1, 2, 4, 8], [16, 32, 64, 128, 256, 512])
        self.assertEqual(class_sums(TWICE, load), ((1 + 4 + 32 + 128 + 512, 1), (2 + 8 + 16 + 64 + 256, 1)))
        self.assertEqual(class_sums(HALF_ROUND, whole_load([1, 2, 3, 4, 5, 6])), ((5, 1), (7, 1), (9, 1)))
        self.assertEqual(class_sums(LONELY, whole_load([5, 4, 3, 2, 1])), ((5, 1), (4, 1), (3, 1), (2, 1), (1, 1)))
        self.assertEqual(class_sums(TWO_WHEELS, (((1, 2), (1, 3)), ((1, 6), (0, 1), (-1, 4)))), ((3, 4),))

    def test_behind_a_beat_they_stand_one_less(self):
        chance = random.Random(31)
        for machine in some_machines():
            load = random_load(machine, chance)
            ahead = dict(zip(names_of(machine), class_sums(machine, load)))
            gone = dict(zip(names_of(machine), class_sums(machine, beat(machine, load))))
            for number, name in ahead:
                greatest = g_of(machine, lots(machine)[number][0])
                self.assertEqual(gone[(number, (name - 1) % greatest)], ahead[(number, name)])

    def test_all_together_is_what_is_held(self):
        chance = random.Random(32)
        for machine in some_machines():
            load = random_load(machine, chance)
            sums = class_sums(machine, load)
            self.assertIs(type(sums), tuple)
            self.assertEqual(len(sums), len(classes(machine)))
            self.assert_fractions(sums)
            self.assertEqual(total(sums), held(machine, load))
            self.assertEqual(total(class_sums(machine, behind(machine, load, 5))), held(machine, load))

    def test_bad_loads(self):
        self.assert_place(BadLoad, (1, 1), class_sums, TWO_WHEELS, (((1, 1), (1, 1)), ((1, 1), (2, 4), None)))
        self.assert_place(BadLoad, None, class_sums, TWO_WHEELS, empty(TWICE))
        for thing in odd_things():
            self.assert_place(BadLoad, None, class_sums, TWO_WHEELS, thing)


class NoMachine(WheelTest):
    def test_ahead_of_all_else(self):
        for thing in odd_things() + [((0,), ()), ((2, 3), [])]:
            with self.assertRaises(BadMachine):
                classes(thing)
            for call in (class_of, class_sums):
                with self.assertRaises(BadMachine):
                    call(thing, None)
        self.assert_place(BadMachine, "touches", class_sums, ((1,), []), None)

    def test_by_names_and_told_again(self):
        self.assertEqual(class_of(machine=TWICE, spot=(1, 0)), (0, 1))
        self.assertEqual(classes(machine=ONE_CELL), (((0, 0),),))
        self.assertEqual(class_sums(machine=ONE_CELL, load=whole_load([3])), ((3, 1),))
        chance = random.Random(33)
        for machine in MACHINES:
            self.assert_told_again(class_of, machine, (0, 0))
            self.assert_told_again(classes, machine)
            self.assert_told_again(class_sums, machine, random_load(machine, chance))
