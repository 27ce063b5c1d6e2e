"""SHIFTS, G and MISS."""

from itertools import product
from math import gcd

from evenwheels.errors import BadMachine, BadSpot, OutOfPlace
from evenwheels.machines import spots
from evenwheels.shifts import are_shifts, g_of, miss, shifts
from evenwheels.web import lot_of, lots, web
from tests.support import (
    BACKWARD, CHAIN, HALF_ROUND, LONELY, MACHINES, ONE_CELL, SEVERAL_LOTS, TWICE, TWO_WHEELS, UNEVEN_ROUND, WINDING,
    WheelTest, odd_things, some_machines,
)

NO_MODULO = [0, -1, -7, -10 ** 500, (1,), [1], "1", 1.0]
NO_WHEEL = [9, -1, 10 ** 500, (0,), "0"]


def fit(machine, lot, modulo, told):
    """The promise's own words."""
    shift = dict(zip(lot, told))
    divided = all(machine[0][wheel] % modulo == 0 for wheel in lot)
    meet = [(shift[one[0]] + one[1] - shift[other[0]] - other[1]) % modulo == 0
            for one, other in machine[1] if one[0] in lot]
    return divided and all(meet) and told[0] == 0 and all(0 <= one < modulo for one in told)


def g_by_ways(machine, lot):
    """The greatest number that divides all closed ways, by how far off each touch is."""
    ways = [way for way in web(machine) if way[1][0] in lot]
    if not ways:
        return machine[0][lot[0]]
    far = {ways[0][0]: 0}
    for _ in ways:
        for start, _, goal, gap in ways:
            if start in far and goal not in far:
                far[goal] = far[start] + gap
    common = 0
    for start, _, goal, gap in ways:
        common = gcd(common, far[start] + gap - far[goal])
    return common


class Shifts(WheelTest):
    def test_by_hand(self):
        self.assertEqual(shifts(TWICE, 0, 2), (0, 1))
        self.assertEqual(shifts(TWICE, 1, 2), (0, 1))
        self.assertEqual(shifts(TWICE, 0, 1), (0, 0))
        self.assertIsNone(shifts(TWICE, 0, 4))
        self.assertIsNone(shifts(TWICE, 0, 3))
        self.assertEqual(shifts(SEVERAL_LOTS, 2, 3), (0, 2))
        self.assertEqual(shifts(SEVERAL_LOTS, 4, 4), (0, 3))
        self.assertEqual(shifts(SEVERAL_LOTS, 4, 2), (0, 1))
        self.assertIsNone(shifts(SEVERAL_LOTS, 4, 8))

    def test_told_by_a_later_wheel(self):
        self.assertEqual(shifts(WINDING, 1, 4), (0, 1, 3))
        self.assertEqual(shifts(WINDING, 0, 2), (0, 1, 1))
        self.assertEqual(shifts(BACKWARD, 3, 3), (0, 1, 0, 2))

    def test_one_wheel(self):
        self.assertEqual(shifts(LONELY, 0, 5), (0,))
        self.assertEqual(shifts(LONELY, 0, 1), (0,))
        self.assertIsNone(shifts(LONELY, 0, 2))
        self.assertEqual(shifts(HALF_ROUND, 0, 3), (0,))
        self.assertIsNone(shifts(HALF_ROUND, 0, 6))
        self.assertIsNone(shifts(HALF_ROUND, 0, 2))
        self.assertEqual(shifts(SEVERAL_LOTS, 3, 2), (0,))

    def test_very_great_modulo(self):
        for machine in MACHINES:
            for modulo in (31, 60, 10 ** 9, 10 ** 500):
                self.assertIsNone(shifts(machine, 0, modulo))
                self.assertIs(are_shifts(machine, 0, modulo, (0,) * len(lot_of(machine, 0))), False)

    def test_just_where_it_divides_g(self):
        for machine in some_machines():
            for lot in lots(machine):
                greatest = g_of(machine, lot[0])
                for modulo in range(1, 33):
                    told = shifts(machine, lot[-1], modulo)
                    self.assertEqual(told is not None, greatest % modulo == 0)
                    if told is not None:
                        self.assertIs(type(told), tuple)
                        self.assertEqual([type(one) for one in told], [int] * len(lot))
                        self.assertTrue(fit(machine, lot, modulo, told))

    def test_one_at_the_most(self):
        for machine in some_machines():
            for lot in lots(machine):
                for modulo in range(1, 5):
                    if modulo ** (len(lot) - 1) > 300:
                        continue
                    fitting = [(0,) + rest for rest in product(range(modulo), repeat=len(lot) - 1)
                               if fit(machine, lot, modulo, (0,) + rest)]
                    told = shifts(machine, lot[0], modulo)
                    self.assertEqual(fitting, [] if told is None else [told])


class AreShifts(WheelTest):
    def test_all_that_might_be(self):
        for machine in (TWICE, TWO_WHEELS, HALF_ROUND, LONELY, SEVERAL_LOTS, ((4, 4), (((0, 1), (1, 3)),))):
            for lot in lots(machine):
                for modulo in range(1, 7):
                    for told in product(range(-1, modulo + 2), repeat=len(lot)):
                        right = fit(machine, lot, modulo, told)
                        self.assertIs(are_shifts(machine, lot[-1], modulo, told), right, (machine, modulo, told))

    def test_told_ones_are(self):
        for machine in some_machines():
            for lot in lots(machine):
                for modulo in range(1, 31):
                    told = shifts(machine, lot[0], modulo)
                    if told is not None:
                        self.assertIs(are_shifts(machine, lot[0], modulo, told), True)
                        for at in range(len(lot)):
                            other = told[:at] + ((told[at] + 1) % modulo,) + told[at + 1:]
                            self.assertIs(are_shifts(machine, lot[0], modulo, other), modulo == 1)

    def test_the_first_one_is_nought(self):
        self.assertIs(are_shifts(TWICE, 0, 2, (1, 0)), False)
        self.assertIs(are_shifts(LONELY, 0, 5, (1,)), False)

    def test_divides_the_counts(self):
        self.assertIs(are_shifts(LONELY, 0, 3, (0,)), False)
        self.assertIs(are_shifts(TWO_WHEELS, 0, 2, (0, 0)), False)
        self.assertIs(are_shifts(((2, 4), (((0, 0), (1, 0)),)), 0, 4, (0, 0)), False)

    def test_anything(self):
        others = [[0, 1], (0,), (0, 1, 0), (), (False, 1), (0, True), (0, 1.0), ("0", "1"), (0, None), (0, -1), (0, 3),
                  (2, 1), "01", {0: 0, 1: 1}, (0,) * 100000]
        for at, thing in enumerate(others + odd_things()):
            self.assertIs(are_shifts(TWICE, 0, 2, thing), False, at)
        for thing in odd_things() + [[0], (False,), (0, 0)]:
            self.assertIs(are_shifts(ONE_CELL, 0, 1, thing), False)


class G(WheelTest):
    def test_by_hand(self):
        self.assertEqual([g_of(machine, 0) for machine in MACHINES], [1, 5, 3, 1, 1, 2, 1, 3, 1, 2, 1, 4, 3])
        self.assertEqual([g_of(SEVERAL_LOTS, wheel) for wheel in range(5)], [3, 4, 3, 2, 4])
        self.assertEqual(g_of(((12, 18), (((0, 5), (1, 3)),)), 1), 6)
        self.assertEqual(g_of(((12, 12), (((0, 5), (1, 3)),)), 1), 12)
        self.assertEqual(g_of(((12, 12), (((0, 5), (1, 3)), ((0, 8), (1, 10)))), 1), 4)

    def test_by_closed_ways(self):
        for machine in some_machines():
            for lot in lots(machine):
                for wheel in lot:
                    self.assertEqual(g_of(machine, wheel), g_by_ways(machine, lot))


class Miss(WheelTest):
    def test_by_hand(self):
        self.assertEqual(miss(TWICE, (0, 0), (1, 1)), 0)
        self.assertEqual(miss(TWICE, (0, 0), (1, 0)), 1)
        self.assertEqual(miss(HALF_ROUND, (0, 0), (0, 1)), 2)
        self.assertEqual(miss(HALF_ROUND, (0, 1), (0, 0)), 1)
        self.assertEqual(miss(LONELY, (0, 4), (0, 1)), 3)
        self.assertEqual(miss(LONELY, (0, 1), (0, 4)), 2)
        self.assertEqual(miss(SEVERAL_LOTS, (4, 0), (1, 0)), 3)
        self.assertEqual(miss(SEVERAL_LOTS, (1, 0), (4, 0)), 1)
        self.assertEqual(miss(UNEVEN_ROUND, (0, 5), (0, 1)), 0)

    def test_all(self):
        for machine in MACHINES:
            for lot in lots(machine):
                greatest = g_of(machine, lot[0])
                shift = dict(zip(lot, shifts(machine, lot[0], greatest)))
                inside = [spot for spot in spots(machine) if spot[0] in lot]
                for one in inside:
                    for other in inside[::3]:
                        apart = (shift[one[0]] + one[1] - shift[other[0]] - other[1]) % greatest
                        self.assertEqual(miss(machine, one, other), apart)

    def test_of_touches_it_is_nought(self):
        for machine in some_machines():
            for one, other in machine[1]:
                self.assertEqual(miss(machine, one, other), 0)

    def test_of_two_lots(self):
        self.assert_text(OutOfPlace, miss, SEVERAL_LOTS, (0, 0), (1, 0))
        self.assert_text(OutOfPlace, miss, SEVERAL_LOTS, (4, 0), (3, 1))
        self.assert_text(OutOfPlace, miss, SEVERAL_LOTS, (3, 1), (4, 0))

    def test_no_spots(self):
        for thing in odd_things() + [(0, 9), (9, 0), [0, 0], (True, 0), (0, -1)]:
            self.assert_place(BadSpot, None, miss, TWICE, thing, (0, 0))
            self.assert_place(BadSpot, None, miss, TWICE, (0, 0), thing)
            self.assert_place(BadSpot, None, miss, TWICE, thing, thing)
        self.assert_place(BadSpot, None, miss, SEVERAL_LOTS, (0, 0), (1, 4))


class Refused(WheelTest):
    def test_no_machine_ahead_of_all(self):
        for thing in odd_things() + [((0,), ()), ((2, 3), [])]:
            self.assert_bad(g_of, thing, None)
            self.assert_bad(shifts, thing, None, None)
            self.assert_bad(miss, thing, None, None)
            self.assert_bad(are_shifts, thing, None, None, None)
        self.assert_place(BadMachine, "counts", shifts, ((), ()), None, None)

    def assert_bad(self, call, *args):
        with self.assertRaises(BadMachine):
            call(*args)

    def test_wheels(self):
        for wheel in NO_WHEEL + odd_things():
            self.assert_text(OutOfPlace, g_of, TWICE, wheel)
            self.assert_text(OutOfPlace, shifts, TWICE, wheel, 1)
            self.assert_text(OutOfPlace, are_shifts, TWICE, wheel, 1, (0, 0))

    def test_modulo(self):
        for modulo in NO_MODULO + odd_things():
            self.assert_text(OutOfPlace, shifts, TWICE, 0, modulo)
            self.assert_text(OutOfPlace, are_shifts, TWICE, 0, modulo, (0, 0))
            self.assert_text(OutOfPlace, are_shifts, TWICE, 0, modulo, None)

    def test_by_names(self):
        self.assertEqual(shifts(machine=TWICE, wheel=0, modulo=2), (0, 1))
        self.assertIs(are_shifts(machine=TWICE, wheel=0, modulo=2, thing=(0, 1)), True)
        self.assertEqual(g_of(machine=TWICE, wheel=0), 2)
        self.assertEqual(miss(machine=TWICE, spot=(0, 0), other=(1, 0)), 1)

    def test_told_again(self):
        for machine in (TWICE, CHAIN, SEVERAL_LOTS):
            self.assert_told_again(g_of, machine, 0)
            self.assert_told_again(miss, machine, (0, 0), (0, 1))
            for modulo in (1, 2, 3, 5):
                self.assert_told_again(shifts, machine, 0, modulo)
                self.assert_told_again(are_shifts, machine, 0, modulo, (0, 1))
