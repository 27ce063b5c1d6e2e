"""BRIDGES, NEEDLESS TOUCHES, LEAN MACHINES, the CORE."""

import random
from itertools import combinations
from math import gcd

from evenwheels.classes import classes
from evenwheels.ends import evened
from evenwheels.errors import NoTouch
from evenwheels.lean import core, is_bridge, is_lean, is_needless, lean, parts
from evenwheels.machines import machine_of
from evenwheels.more import is_idle, lifted
from evenwheels.shifts import g_of
from evenwheels.web import lot_of, lots
from tests.support import (
    CHAIN, EIGHT, GREAT, HALF_ROUND, LONELY, MACHINES, MOST_CELLS_ALONE, MOST_WHEELS_ALL, SEVERAL_LOTS, TWICE,
    TWO_WHEELS, WheelTest, odd_things, random_load, some_machines,
)

# Two needless ones of which each is needed where the other one is lifted.
EITHER = ((4, 4), (((0, 0), (1, 0)), ((0, 1), (0, 3)), ((1, 1), (1, 3))))
# By misses 6, 4 and 3 of a wheel of 12: 6 alone leaves 6, 4 and 3 leave 1.
SIX_FOUR_THREE = ((12,), (((0, 0), (0, 6)), ((0, 1), (0, 5)), ((0, 2), (0, 11))))
# Eight touches of which two wheels of six and a wheel of four need few.
MANY_LOTS = ((6, 6, 4, 8, 2), (((0, 0), (1, 1)), ((0, 1), (1, 2)), ((0, 2), (0, 5)), ((1, 0), (1, 3)), ((2, 0), (2, 2)),
                               ((2, 1), (3, 0)), ((3, 1), (3, 3)), ((3, 2), (3, 6))))


def all_of(machines):
    return [(machine, touch) for machine in machines for touch in range(len(machine[1]))]


def g_s(machine):
    return [g_of(machine, lot[0]) for lot in lots(machine)]


def only(machine, numbers):
    return (machine[0], tuple(machine[1][number] for number in numbers))


def primes_of(many):
    found = []
    divisor = 2
    while many > 1:
        while many % divisor == 0:
            found.append(divisor)
            many //= divisor
        divisor += 1
    return found


class Bridges(WheelTest):
    def test_by_hand(self):
        self.assertIs(is_bridge(TWO_WHEELS, 0), True)
        self.assertIs(is_bridge(HALF_ROUND, 0), False)
        self.assertEqual([is_bridge(TWICE, touch) for touch in (0, 1)], [False, False])
        self.assertEqual([is_bridge(SEVERAL_LOTS, touch) for touch in (0, 1, 2)], [True, False, False])
        self.assertEqual([is_bridge(EITHER, touch) for touch in (0, 1, 2)], [True, False, False])
        self.assertEqual([is_bridge(MOST_WHEELS_ALL, touch) for touch in range(8)], [True] * 8)

    def test_just_where_there_is_a_lot_more(self):
        for machine, touch in all_of(some_machines()):
            more = len(lots(lifted(machine, touch))) - len(lots(machine))
            self.assertIn(more, (0, 1))
            self.assertIs(is_bridge(machine, touch), more == 1)

    def test_parts(self):
        self.assertEqual(parts(TWO_WHEELS, 0), (2, 3))
        self.assertEqual(parts(HALF_ROUND, 0), (6,))
        self.assertEqual(parts(TWICE, 1), (2,))
        self.assertEqual(parts(SEVERAL_LOTS, 0), (3, 6))
        self.assertEqual(parts(SEVERAL_LOTS, 2), (4,))
        # The lots of both are of several wheels.
        machine = ((6, 3, 4, 8), (((0, 0), (2, 0)), ((0, 1), (3, 0)), ((1, 0), (2, 1))))
        self.assertEqual([parts(machine, touch) for touch in range(3)], [(2, 1), (1, 8), (2, 3)])

    def test_parts_by_their_first_wheels(self):
        for machine, touch in all_of(some_machines()):
            then = lifted(machine, touch)
            ends = sorted({lot_of(then, wheel) for wheel, _ in machine[1][touch]})
            told = parts(machine, touch)
            self.assertIs(type(told), tuple)
            self.assertEqual(told, tuple(g_of(then, lot[0]) for lot in ends))
            self.assertEqual(len(told), 1 + is_bridge(machine, touch))

    def test_no_touch(self):
        for call in (is_bridge, is_needless, parts):
            for thing in [2, -1, (0,), 10 ** 500] + odd_things():
                self.assert_text(NoTouch, call, TWICE, thing)
            self.assert_text(NoTouch, call, LONELY, 0)
            self.assert_text(NoTouch, call, MOST_CELLS_ALONE, 8)


class Needless(WheelTest):
    def test_by_hand(self):
        self.assertIs(is_needless(TWO_WHEELS, 0), False)
        self.assertIs(is_needless(HALF_ROUND, 0), False)
        self.assertEqual([is_needless(TWICE, touch) for touch in (0, 1)], [True, True])
        self.assertEqual([is_needless(EITHER, touch) for touch in (0, 1, 2)], [False, True, True])
        self.assertEqual([is_needless(SIX_FOUR_THREE, touch) for touch in (0, 1, 2)], [True, False, False])
        self.assertEqual([is_needless(SEVERAL_LOTS, touch) for touch in (0, 1, 2)], [False, True, True])

    def test_just_where_it_is_idle_lifted(self):
        for machine, touch in all_of(some_machines() + [MANY_LOTS]):
            then = lifted(machine, touch)
            told = is_needless(machine, touch)
            self.assertIs(told, is_idle(then, *machine[1][touch]))
            self.assertIs(told, lots(then) == lots(machine) and classes(then) == classes(machine))
            if told:
                self.assertIs(is_bridge(machine, touch), False)


class Lean(WheelTest):
    def test_by_hand(self):
        self.assertEqual(lean(LONELY), LONELY)
        self.assertEqual(lean(TWO_WHEELS), TWO_WHEELS)
        self.assertEqual(lean(TWICE), ((4, 6), (((0, 0), (1, 1)),)))
        # The last one that is needless is lifted, though lifting the first one would do, too.
        self.assertEqual(lean(EITHER), ((4, 4), (((0, 0), (1, 0)), ((0, 1), (0, 3)))))
        self.assertEqual(lean(SIX_FOUR_THREE), ((12,), SIX_FOUR_THREE[1][1:]))
        self.assertEqual([is_lean(machine) for machine in (LONELY, TWO_WHEELS, TWICE, EITHER, SIX_FOUR_THREE)],
                         [True, True, False, False, False])

    def test_each_time_the_last_one(self):
        for machine in some_machines() + [MANY_LOTS]:
            left = machine
            while any(is_needless(left, touch) for touch in range(len(left[1]))):
                left = lifted(left, max(touch for touch in range(len(left[1])) if is_needless(left, touch)))
            self.assertEqual(lean(machine), left)
            self.assertIs(is_lean(left), True)
            self.assertIs(is_lean(machine), left == machine)

    def test_it_leaves_lots_and_g_s(self):
        chance = random.Random(261)
        for machine in some_machines() + [MANY_LOTS]:
            left = lean(machine)
            self.assertEqual(lots(left), lots(machine))
            self.assertEqual(classes(left), classes(machine))
            load = random_load(machine, chance)
            self.assertEqual(evened(left, load), evened(machine, load))

    def test_how_many_touches_there_are_at_the_most(self):
        for machine in some_machines():
            left = lean(machine)
            for lot in lots(left):
                many = sum(pair[0][0] in lot for pair in left[1])
                common = gcd(*[machine[0][wheel] for wheel in lot])
                self.assertGreaterEqual(many, len(lot) - 1)
                self.assertLessEqual(many, len(lot) - 1 + len(primes_of(common // g_of(left, lot[0]))))


class Core(WheelTest):
    def test_by_hand(self):
        self.assertEqual(core(LONELY), ())
        self.assertEqual(core(TWO_WHEELS), (0,))
        self.assertEqual(core(TWICE), (0,))
        self.assertEqual(core(EITHER), (0, 1))
        self.assertEqual(core(SIX_FOUR_THREE), (1, 2))
        self.assertEqual(core(SEVERAL_LOTS), (0, 1))
        # One that does nothing beside another one, and one that does all alone, behind them.
        machine = ((12,), (((0, 0), (0, 6)), ((0, 1), (0, 5)), ((0, 2), (0, 3))))
        self.assertEqual(core(machine), (2,))
        # A touch within a wheel alone.
        self.assertEqual(core(((4, 5), (((0, 0), (0, 2)),))), (0,))
        self.assertEqual(core(((4,), (((0, 0), (0, 1)), ((0, 2), (0, 3))))), (0,))

    def test_fewer_ahead_of_lesser(self):
        # The core may be less than what is lean: misses 6 and 4 and then 2 leave 2, as does 2 alone.
        machine = machine_of((12,), [((0, 0), (0, 6)), ((0, 1), (0, 5)), ((0, 9), (0, 11))])
        self.assertEqual(core(machine), (2,))
        self.assertEqual(lean(machine)[1], machine[1][:2])

    def test_the_first_of_the_fewest(self):
        for machine in some_machines() + [MANY_LOTS]:
            told = core(machine)
            self.assertIs(type(told), tuple)
            all_numbers = range(len(machine[1]))
            wanted = next(numbers for many in range(9) for numbers in combinations(all_numbers, many)
                          if lots(only(machine, numbers)) == lots(machine)
                          and classes(only(machine, numbers)) == classes(machine))
            self.assertEqual(told, wanted)

    def test_how_many_are_in_it_at_the_most(self):
        for machine in some_machines() + [MANY_LOTS]:
            told = core(machine)
            for lot in lots(machine):
                many = sum(machine[1][number][0][0] in lot for number in told)
                common = gcd(*[machine[0][wheel] for wheel in lot])
                self.assertGreaterEqual(many, len(lot) - 1)
                self.assertLessEqual(many, len(lot) - 1 + len(set(primes_of(common // g_of(machine, lot[0])))))

    def test_of_eight_touches(self):
        self.assertEqual(core(MOST_WHEELS_ALL), tuple(range(8)))
        self.assertEqual(core(MOST_CELLS_ALONE), core(only(MOST_CELLS_ALONE, range(8))))
        same = ((16,), tuple(((0, p), (0, p + 8)) for p in range(8)))
        self.assertEqual(core(same), (0,))
        self.assertEqual(g_s(only(same, (0,))), g_s(same))
        self.assertEqual(len(core(EIGHT)), 3)


class NoMachine(WheelTest):
    def test_ahead_of_all_else(self):
        for call, many in ((is_bridge, 1), (is_needless, 1), (parts, 1), (is_lean, 0), (lean, 0), (core, 0)):
            self.assert_no_machine_ahead(call, *[None] * many)

    def test_by_names_and_told_again(self):
        self.assertIs(is_bridge(machine=TWO_WHEELS, touch=0), True)
        self.assertIs(is_needless(machine=TWO_WHEELS, touch=0), False)
        self.assertEqual(parts(machine=TWO_WHEELS, touch=0), (2, 3))
        self.assertIs(is_lean(machine=TWO_WHEELS), True)
        self.assertEqual(lean(machine=TWO_WHEELS), TWO_WHEELS)
        self.assertEqual(core(machine=TWO_WHEELS), (0,))
        for machine in MACHINES + GREAT + [CHAIN]:
            for call in (is_lean, lean, core):
                self.assert_told_again(call, machine)
            if machine[1]:
                for call in (is_bridge, is_needless, parts):
                    self.assert_told_again(call, machine, len(machine[1]) - 1)
