"""CLOSED WAYS: what is one, their lengths, and all SIMPLE ones."""

import random
from itertools import permutations
from math import gcd

from evenwheels.closed import is_closed, length, simple_ways
from evenwheels.errors import BadMachine, OutOfPlace
from evenwheels.shifts import g_of
from evenwheels.web import lots, web
from tests.support import (
    DEEP_TUPLE, HALF_ROUND, LONELY, MACHINES, MOST_CELLS_ALONE, ONE_CELL, SEVERAL_LOTS, TWICE, TWO_WHEELS,
    UNEVEN_ROUND, WheelTest, odd_things, some_machines, within_itself,
)

# A round through three touches that goes one way alone.
ROUND = ((6,), (((0, 0), (0, 1)), ((0, 2), (0, 3)), ((0, 4), (0, 5))))
ONCE = ((0, 0), (0, 4), (0, 2))


def fits(machine, spots):
    """The promise's own words, of a tuple of spots of touches."""
    ways = {way[1]: way for way in web(machine)}
    nexts = spots[1:] + spots[:1]
    return all(ways[one][2] == ways[other][0] for one, other in zip(spots, nexts))


class IsClosed(WheelTest):
    def test_by_hand(self):
        for way in (((0, 0), (0, 2)), ((0, 2), (0, 0)), ((0, 0), (1, 3)), ((1, 1), (0, 2)), ((1, 1), (1, 3)),
                    ((0, 0), (0, 2), (1, 1), (1, 3)), ((0, 0), (0, 2), (0, 0), (1, 3))):
            self.assertIs(is_closed(TWICE, way), True)
        for way in (((0, 0),), ((0, 0), (1, 1)), ((0, 0), (0, 2), (1, 1)), ((0, 0), (0, 0)), ((0, 2), (1, 3))):
            self.assertIs(is_closed(TWICE, way), False)

    def test_once_twice_turned_about(self):
        self.assertIs(is_closed(ROUND, ONCE), True)
        self.assertIs(is_closed(ROUND, ONCE * 2), True)
        self.assertIs(is_closed(ROUND, ONCE * 5000), True)
        self.assertIs(is_closed(ROUND, ONCE[1:] + ONCE[:1]), True)
        self.assertIs(is_closed(ROUND, ONCE[::-1]), False)
        self.assertIs(is_closed(ROUND, ONCE + ONCE[:1]), False)
        self.assertIs(is_closed(ROUND, ONCE[:2]), False)
        self.assertIs(is_closed(ROUND, ((0, 1),)), True)
        self.assertIs(is_closed(ROUND, ((0, 0),)), False)
        self.assertIs(is_closed(ROUND, ((0, 1), (0, 0), (0, 4), (0, 3), (0, 2))), True)

    def test_the_last_one_leads_to_the_first(self):
        self.assertIs(is_closed(ROUND, ((0, 0), (0, 5), (0, 5))), False)
        self.assertIs(is_closed(ROUND, ((0, 5), (0, 4))), False)

    def test_anything(self):
        others = [(), [(0, 1)], [0, 1], ((False, 1),), ((0, True),), ([0, 1],), ((0, 1.0),), ((0, 1, 0),), ((0,),),
                  ((0, 6),), ((1, 0),), ((-1, 1),), ((0, -5),), ((0, 1), None), (None, (0, 1)), (0, 1), "ab", ("ab",),
                  ((0, 10 ** 500),), {(0, 1): 1}, (within_itself(),), (DEEP_TUPLE,), ((DEEP_TUPLE, 0),),
                  ((0, 1), (0, DEEP_TUPLE)), ((0, 1),) * 9999 + (None,)]
        for at, thing in enumerate(others + odd_things()):
            self.assertIs(is_closed(ROUND, thing), False, at)

    def test_spots_of_no_touch(self):
        self.assertIs(is_closed(HALF_ROUND, ((0, 0),)), False)
        self.assertIs(is_closed(HALF_ROUND, ((0, 1), (0, 0))), False)
        self.assertIs(is_closed(LONELY, ((0, 0),)), False)
        self.assertIs(is_closed(SEVERAL_LOTS, ((3, 0),)), False)

    def test_of_two_lots(self):
        self.assertIs(is_closed(SEVERAL_LOTS, ((0, 1), (1, 0), (1, 2))), False)

    def test_all_short_ones(self):
        for machine in (TWICE, ROUND, TWO_WHEELS, UNEVEN_ROUND, SEVERAL_LOTS):
            touching = [spot for pair in machine[1] for spot in pair]
            for many in (1, 2, 3):
                for way in permutations(touching, many):
                    self.assertIs(is_closed(machine, way), fits(machine, way))

    def test_walks(self):
        chance = random.Random(21)
        for machine in some_machines():
            ways = {way[1]: way for way in web(machine)}
            for _ in range(6 if ways else 0):
                walk = [chance.choice(sorted(ways))]
                while len(walk) < 3 or ways[walk[-1]][2] != ways[walk[0]][0]:
                    walk.append(chance.choice(machine[1][ways[walk[-1]][2]]))
                self.assertIs(is_closed(machine, tuple(walk)), True)
                self.assertIs(is_closed(machine, walk), False)
                self.assertEqual(length(machine, tuple(walk)), sum(ways[spot][3] for spot in walk))


class Length(WheelTest):
    def test_by_hand(self):
        self.assertEqual(length(TWICE, ((0, 0), (0, 2))), 4)
        self.assertEqual(length(TWICE, ((1, 1), (0, 2))), 6)
        self.assertEqual(length(TWICE, ((0, 0), (0, 2), (1, 1), (1, 3))), 10)
        self.assertEqual(length(ROUND, ONCE), 3)
        self.assertEqual(length(ROUND, ONCE * 100), 300)
        self.assertEqual(length(TWO_WHEELS, ((1, 0),)), 3)

    def test_out_of_place(self):
        others = [(), ((0, 0),), [(0, 1)], ((0, True),), ONCE[::-1], list(ONCE), ((9, 9),), (DEEP_TUPLE,)]
        for thing in others + odd_things():
            self.assert_text(OutOfPlace, length, ROUND, thing)


class SimpleWays(WheelTest):
    def test_by_hand(self):
        self.assertEqual(simple_ways(TWO_WHEELS, 0), [((0, 0),), ((1, 0),)])
        told = [((0, 0), (0, 2)), ((0, 0), (1, 3)), ((0, 2), (1, 1)), ((1, 1), (1, 3))]
        self.assertEqual(simple_ways(TWICE, 1), told)
        self.assertEqual(simple_ways(ROUND, 0), [ONCE, ((0, 1),), ((0, 3),), ((0, 5),)])
        self.assertEqual(simple_ways(SEVERAL_LOTS, 2), [((0, 1),), ((2, 2),)])
        told = [((1, 0), (1, 2)), ((1, 0), (4, 7)), ((1, 2), (4, 1)), ((4, 1), (4, 7))]
        self.assertEqual(simple_ways(SEVERAL_LOTS, 4), told)

    def test_none_without_a_touch(self):
        self.assertEqual(simple_ways(LONELY, 0), [])
        self.assertEqual(simple_ways(ONE_CELL, 0), [])
        self.assertEqual(simple_ways(SEVERAL_LOTS, 3), [])

    def test_rising_from_the_least_none_twice(self):
        for machine in some_machines():
            for lot in lots(machine):
                touch_at = {spot: number for number, pair in enumerate(machine[1]) for spot in pair}
                told = simple_ways(machine, lot[-1])
                self.assertIs(type(told), list)
                self.assertEqual(told, sorted(set(told)))
                for way in told:
                    self.assertTrue(is_closed(machine, way))
                    self.assertEqual(way[0], min(way))
                    self.assertIn(way[0][0], lot)
                    touches = [touch_at[spot] for spot in way]
                    self.assertEqual(len(touches), len(set(touches)))

    def test_all_are_told(self):
        for machine in some_machines():
            if len(machine[1]) > 3:
                continue
            touching = [spot for pair in machine[1] for spot in pair]
            touch_at = {spot: number for number, pair in enumerate(machine[1]) for spot in pair}
            found = []
            for many in range(1, len(machine[1]) + 1):
                for way in permutations(touching, many):
                    if way[0] == min(way) and len({touch_at[spot] for spot in way}) == many and fits(machine, way):
                        found.append(way)
            for lot in lots(machine):
                inside = sorted(way for way in found if way[0][0] in lot)
                self.assertEqual(simple_ways(machine, lot[0]), inside)

    def test_the_greatest_that_divides_all_is_g(self):
        for machine in some_machines():
            for lot in lots(machine):
                common = 0
                for way in simple_ways(machine, lot[0]):
                    common = gcd(common, length(machine, way))
                self.assertIn(common, (g_of(machine, lot[0]), 0))

    def test_wheels_that_are_none(self):
        for thing in odd_things() + [1, -1, (0,)]:
            self.assert_text(OutOfPlace, simple_ways, ROUND, thing)


class NoMachine(WheelTest):
    def test_ahead_of_all_else(self):
        for thing in odd_things() + [((0,), ()), ((2, 3), [])]:
            for call in (is_closed, length, simple_ways):
                with self.assertRaises(BadMachine):
                    call(thing, None)
        self.assert_place(BadMachine, "touches", is_closed, ((1,), []), None)

    def test_by_names(self):
        self.assertIs(is_closed(machine=ROUND, thing=ONCE), True)
        self.assertEqual(length(machine=ROUND, way=ONCE), 3)
        self.assertEqual(simple_ways(machine=TWO_WHEELS, wheel=0), [((0, 0),), ((1, 0),)])

    def test_told_again(self):
        for machine in MACHINES + [ROUND]:
            self.assert_told_again(simple_ways, machine, 0)
        self.assert_told_again(is_closed, ROUND, ONCE)
        self.assert_told_again(is_closed, ROUND, list(ONCE))
        self.assert_told_again(length, ROUND, ONCE)
        self.assertGreater(len(simple_ways(MOST_CELLS_ALONE, 0)), 8)
