"""LOADS and BEATS: what stands where, what is read, and what stays."""

import random
from fractions import Fraction

from evenwheels.errors import BadLoad, BadMachine, BadSpot, OutOfPlace
from evenwheels.fractions import half, less, plus, times, total
from evenwheels.loads import (
    MOST_BEATS, added, beat, behind, empty, held, is_load, need_beats, need_load, one_at, read, readings, scaled,
    squares,
)
from evenwheels.machines import spots
from tests.support import (
    CHAIN, DEEP_TUPLE, HALF_ROUND, LONELY, MACHINES, ONE_CELL, ONE_CELL_TOUCHES, SEVERAL_LOTS, TWICE, TWO_WHEELS,
    WheelTest, holds_of, load_of, odd_things, pair_of, plain_beat, plain_read, random_load, some_machines, whole_load,
)

NO_BEATS = [-1, 301, 10 ** 500, -10 ** 500, (1,), [1], "1", 2.0]
NO_FRACTIONS = [1, (1,), (1, 2, 3), (2, 4), (0, 2), (1, 0), (1, -2), (True, 1), (1, True), [1, 2], (1.0, 1), "12"]


class Kinds(WheelTest):
    def test_loads(self):
        chance = random.Random(1)
        for machine in some_machines():
            for load in (empty(machine), random_load(machine, chance)):
                self.assertIs(is_load(machine, load), True)
                self.assertIsNone(need_load(machine, load))

    def refused(self, place, machine, load):
        self.assertIs(is_load(machine, load), False)
        self.assert_place(BadLoad, place, need_load, machine, load)

    def test_shape(self):
        row, other = ((0, 1),) * 2, ((0, 1),) * 3
        others = [(), (row,), (row, other, other), [row, other], (row, list(other)), (list(row), other), (other, row),
                  (row, row), (row, other + row), (row, ()), (row, None), (None, other), row + other, (0, 1),
                  {0: row, 1: other}, ((None,) * 2, (None,) * 4), DEEP_TUPLE, (row, "abc"), ("ab", other)]
        for load in others + odd_things():
            self.refused(None, TWO_WHEELS, load)

    def test_first_that_is_no_fraction(self):
        for thing in odd_things() + NO_FRACTIONS:
            for wheel, place in spots(TWO_WHEELS):
                rows = [list(row) for row in whole_load([1, 2], [3, 4, 5])]
                rows[wheel][place] = thing
                self.refused((wheel, place), TWO_WHEELS, tuple(map(tuple, rows)))
                rows[1][2] = None
                self.refused((wheel, place), TWO_WHEELS, tuple(map(tuple, rows)))

    def test_shape_ahead_of_fractions(self):
        self.refused(None, TWO_WHEELS, ((None, None), ((0, 1),) * 2))
        self.refused((0, 0), TWO_WHEELS, ((None, None), (None,) * 3))

    def test_of_another_machine(self):
        for one in MACHINES:
            for other in MACHINES:
                self.assertIs(is_load(one, empty(other)), one[0] == other[0])

    def test_beats(self):
        self.assertEqual(MOST_BEATS, 300)
        for beats in (0, 1, 299, 300):
            self.assertIsNone(need_beats(beats))
        for beats in NO_BEATS + odd_things():
            self.assert_text(OutOfPlace, need_beats, beats)


class Made(WheelTest):
    def test_empty(self):
        self.assertEqual(empty(ONE_CELL), (((0, 1),),))
        self.assertEqual(empty(TWO_WHEELS), (((0, 1), (0, 1)), ((0, 1), (0, 1), (0, 1))))

    def test_one_at(self):
        self.assertEqual(one_at(TWO_WHEELS, (1, 1)), whole_load([0, 0], [0, 1, 0]))
        self.assertEqual(one_at(TWO_WHEELS, (0, 1)), whole_load([0, 1], [0, 0, 0]))
        self.assertEqual(one_at(ONE_CELL, (0, 0)), whole_load([1]))

    def test_one_at_no_spot(self):
        for thing in odd_things() + [(0, 2), (2, 0), (-1, 0), (0, -1), [0, 0], (0,), (0, 0, 0), (False, 0), (0, True)]:
            self.assert_place(BadSpot, None, one_at, TWO_WHEELS, thing)

    def test_added(self):
        one = (((1, 2), (1, 3)), ((0, 1), (-1, 1), (5, 1)))
        other = (((1, 2), (1, 6)), ((7, 2), (1, 1), (-9, 2)))
        self.assertEqual(added(TWO_WHEELS, one, other), (((1, 1), (1, 2)), ((7, 2), (0, 1), (1, 2))))

    def test_scaled(self):
        load = (((1, 2), (1, 3)), ((0, 1), (-1, 1), (6, 1)))
        self.assertEqual(scaled(TWO_WHEELS, load, (2, 3)), (((1, 3), (2, 9)), ((0, 1), (-2, 3), (4, 1))))
        self.assertEqual(scaled(TWO_WHEELS, load, (0, 1)), empty(TWO_WHEELS))
        self.assertEqual(scaled(TWO_WHEELS, load, (-1, 1)), (((-1, 2), (-1, 3)), ((0, 1), (1, 1), (-6, 1))))

    def test_held_and_squares(self):
        load = (((1, 2), (1, 3)), ((0, 1), (-1, 1), (6, 1)))
        self.assertEqual(held(TWO_WHEELS, load), (35, 6))
        self.assertEqual(squares(TWO_WHEELS, load), pair_of(Fraction(1, 4) + Fraction(1, 9) + 37))
        self.assertEqual(held(TWO_WHEELS, empty(TWO_WHEELS)), (0, 1))
        self.assertEqual(squares(TWO_WHEELS, empty(TWO_WHEELS)), (0, 1))

    def test_by_names(self):
        load = whole_load([1, 2], [3, 4, 5])
        self.assertIs(is_load(machine=TWO_WHEELS, thing=load), True)
        self.assertIsNone(need_load(machine=TWO_WHEELS, thing=load))
        self.assertEqual(empty(machine=ONE_CELL), whole_load([0]))
        self.assertEqual(one_at(machine=ONE_CELL, spot=(0, 0)), whole_load([1]))
        self.assertEqual(added(machine=TWO_WHEELS, load=load, other=load), whole_load([2, 4], [6, 8, 10]))
        self.assertEqual(scaled(machine=TWO_WHEELS, load=load, by=(3, 1)), whole_load([3, 6], [9, 12, 15]))
        self.assertEqual(held(machine=TWO_WHEELS, load=load), (15, 1))
        self.assertEqual(squares(machine=TWO_WHEELS, load=load), (55, 1))
        self.assertEqual(read(machine=TWO_WHEELS, load=load), ((2, 1),))
        self.assertEqual(beat(machine=TWO_WHEELS, load=load), whole_load([2, 2], [4, 5, 2]))
        self.assertEqual(behind(machine=TWO_WHEELS, load=load, beats=1), whole_load([2, 2], [4, 5, 2]))
        self.assertEqual(readings(machine=TWO_WHEELS, load=load, beats=1), [((2, 1),)])


class Beats(WheelTest):
    def test_rolling_alone(self):
        self.assertEqual(beat(LONELY, whole_load([1, 2, 3, 4, 5])), whole_load([2, 3, 4, 5, 1]))
        self.assertEqual(read(LONELY, whole_load([1, 2, 3, 4, 5])), ())
        self.assertEqual(behind(LONELY, whole_load([1, 2, 3, 4, 5]), 3), whole_load([4, 5, 1, 2, 3]))
        self.assertEqual(readings(LONELY, whole_load([1, 2, 3, 4, 5]), 2), [(), ()])

    def test_two_wheels_by_hand(self):
        load = whole_load([1, 2], [5, 6, 7])
        self.assertEqual(read(TWO_WHEELS, load), ((3, 1),))
        self.assertEqual(beat(TWO_WHEELS, load), whole_load([2, 3], [6, 7, 3]))
        self.assertEqual(behind(TWO_WHEELS, load, 2), whole_load([3, 4], [7, 3, 4]))
        self.assertEqual(behind(TWO_WHEELS, load, 3), whole_load([4, 5], [3, 4, 5]))
        third = (((5, 1), (7, 2)), ((4, 1), (5, 1), (7, 2)))
        self.assertEqual(behind(TWO_WHEELS, load, 4), third)
        self.assertEqual(readings(TWO_WHEELS, load, 5), [((3, 1),), ((4, 1),), ((5, 1),), ((7, 2),), ((9, 2),)])

    def test_a_wheel_that_touches_itself_by_hand(self):
        load = whole_load([0, 8, 1, 2, 4, 3])
        self.assertEqual(read(HALF_ROUND, load), ((6, 1),))
        self.assertEqual(beat(HALF_ROUND, load), whole_load([6, 1, 2, 6, 3, 0]))
        self.assertEqual(behind(HALF_ROUND, load, 2), whole_load([2, 2, 6, 2, 0, 6]))
        self.assertEqual(readings(HALF_ROUND, load, 4), [((6, 1),), ((2, 1),), ((1, 1),), ((6, 1),)])

    def test_a_wheel_of_one_cell_by_hand(self):
        load = whole_load([8], [1, 2, 4, 3])
        self.assertEqual(read(ONE_CELL_TOUCHES, load), ((6, 1),))
        self.assertEqual(beat(ONE_CELL_TOUCHES, load), whole_load([6], [2, 6, 3, 1]))
        self.assertEqual(behind(ONE_CELL_TOUCHES, load, 2), (((9, 2),), ((6, 1), (9, 2), (1, 1), (2, 1))))
        told = [((6, 1),), ((9, 2),), ((11, 4),), ((19, 8),), ((67, 16),)]
        self.assertEqual(readings(ONE_CELL_TOUCHES, load, 5), told)

    def test_one_cell(self):
        self.assertEqual(behind(ONE_CELL, whole_load([7]), 300), whole_load([7]))

    def test_all_touches_share_at_once_by_hand(self):
        load = whole_load([4, 0, 0, 0], [0, 2, 0, 6, 0, 0])
        self.assertEqual(read(TWICE, load), ((3, 1), (3, 1)))
        self.assertEqual(beat(TWICE, load), whole_load([0, 3, 0, 3], [3, 0, 3, 0, 0, 0]))

    def test_none_of_noughts(self):
        for machine in MACHINES:
            self.assertEqual(behind(machine, empty(machine), 9), empty(machine))

    def test_just_as_a_second_telling(self):
        chance = random.Random(2)
        for machine in some_machines():
            load = random_load(machine, chance)
            holds = holds_of(load)
            told = []
            for beats in range(8):
                self.assertEqual(behind(machine, load, beats), load_of(machine, holds))
                self.assertEqual(readings(machine, load, beats), told)
                self.assertEqual(beat(machine, load_of(machine, holds)), load_of(machine, plain_beat(machine, holds)))
                reading = tuple(pair_of(worth) for worth in plain_read(machine, holds))
                self.assertEqual(read(machine, load_of(machine, holds)), reading)
                told.append(reading)
                holds = plain_beat(machine, holds)

    def test_kinds_told(self):
        chance = random.Random(3)
        for machine in MACHINES:
            load = random_load(machine, chance)
            for told in (beat(machine, load), behind(machine, load, 4), added(machine, load, load)):
                self.assertTrue(is_load(machine, told))
                self.assert_fractions(told)
            self.assertIs(type(read(machine, load)), tuple)
            self.assert_fractions(read(machine, load))
            told = readings(machine, load, 3)
            self.assertIs(type(told), list)
            self.assertEqual([type(row) for row in told], [tuple] * 3)
            self.assert_fractions(told)


class Stays(WheelTest):
    def test_beats_add_up(self):
        chance = random.Random(4)
        for machine in some_machines():
            load = random_load(machine, chance)
            for beats, more in ((0, 0), (0, 3), (1, 1), (5, 2), (4, 9)):
                both = behind(machine, behind(machine, load, beats), more)
                self.assertEqual(both, behind(machine, load, beats + more))
                rest = readings(machine, behind(machine, load, beats), more)
                self.assertEqual(readings(machine, load, beats) + rest, readings(machine, load, beats + more))

    def test_a_sum_goes_on_as_the_sum(self):
        chance = random.Random(5)
        for machine in some_machines():
            one, other = random_load(machine, chance), random_load(machine, chance)
            sums = added(machine, behind(machine, one, 5), behind(machine, other, 5))
            self.assertEqual(behind(machine, added(machine, one, other), 5), sums)
            many = scaled(machine, behind(machine, one, 5), (-3, 7))
            self.assertEqual(behind(machine, scaled(machine, one, (-3, 7)), 5), many)
            reads = tuple(plus(*pair) for pair in zip(read(machine, one), read(machine, other)))
            self.assertEqual(read(machine, added(machine, one, other)), reads)

    def test_all_that_is_held_stays(self):
        chance = random.Random(6)
        for machine in some_machines():
            load = random_load(machine, chance)
            self.assertEqual(held(machine, behind(machine, load, 6)), held(machine, load))

    def test_squares_get_less_by_what_met(self):
        chance = random.Random(7)
        for machine in some_machines():
            load = random_load(machine, chance)
            for _ in range(5):
                apart = [less(load[one[0]][one[1]], load[other[0]][other[1]]) for one, other in machine[1]]
                lost = total([half(times(worth, worth)) for worth in apart])
                gone = beat(machine, load)
                self.assertEqual(squares(machine, gone), less(squares(machine, load), lost))
                load = gone

    def test_nought_and_300_beats(self):
        chance = random.Random(8)
        for machine in MACHINES:
            load = random_load(machine, chance)
            self.assertEqual(behind(machine, load, 0), load)
            self.assertEqual(readings(machine, load, 0), [])
            far = behind(machine, load, 300)
            self.assertEqual(far, behind(machine, behind(machine, load, 299), 1))
            self.assertEqual(held(machine, far), held(machine, load))
            told = readings(machine, load, 300)
            self.assertEqual(len(told), 300)
            self.assertEqual(told[299], read(machine, behind(machine, load, 299)))


class Refused(WheelTest):
    def setUp(self):
        self.load = whole_load([1, 2], [3, 4, 5])
        self.bad = whole_load([1, 2], [3, 4])
        self.worse = (((1, 1), (1, 1)), ((1, 1), (2, 4), None))

    def test_no_machine_ahead_of_all(self):
        for thing in odd_things() + [((2, 3), None), ((0,), ()), [(2, 3), ()]]:
            for call in (empty,):
                self.assert_bad(call, thing)
            for call in (is_load, need_load, one_at, held, squares, read, beat):
                self.assert_bad(call, thing, None)
            for call in (added, scaled, behind, readings):
                self.assert_bad(call, thing, None, None)

    def assert_bad(self, call, *args):
        with self.assertRaises(BadMachine):
            call(*args)

    def test_places_of_bad_machines(self):
        self.assert_place(BadMachine, None, read, None, None)
        self.assert_place(BadMachine, "counts", behind, ((), ()), None, None)
        self.assert_place(BadMachine, "touches", added, ((1,), []), None, None)
        self.assert_place(BadMachine, 0, is_load, ((1,), (None,)), None)

    def test_bad_loads(self):
        for bad, place in ((self.bad, None), (self.worse, (1, 1))):
            for call in (held, squares, read, beat):
                self.assert_place(BadLoad, place, call, TWO_WHEELS, bad)
            for call in (added, scaled, behind, readings):
                self.assert_place(BadLoad, place, call, TWO_WHEELS, bad, None)
                self.assert_place(BadLoad, place, call, TWO_WHEELS, bad, -1)

    def test_loads_of_anything(self):
        for thing in odd_things():
            for call in (held, squares, read, beat):
                self.assert_place(BadLoad, None, call, TWO_WHEELS, thing)
            for call in (added, scaled, behind, readings):
                self.assert_place(BadLoad, None, call, TWO_WHEELS, thing, thing)
            self.assert_place(BadLoad, None, added, TWO_WHEELS, self.load, thing)

    def test_loads_in_their_order(self):
        self.assert_place(BadLoad, (1, 1), added, TWO_WHEELS, self.worse, self.bad)
        self.assert_place(BadLoad, None, added, TWO_WHEELS, self.bad, self.worse)
        self.assert_place(BadLoad, (1, 1), added, TWO_WHEELS, self.load, self.worse)
        self.assert_place(BadLoad, None, added, TWO_WHEELS, self.load, self.bad)

    def test_out_of_place(self):
        for by in NO_FRACTIONS + odd_things():
            self.assert_text(OutOfPlace, scaled, TWO_WHEELS, self.load, by)
        for beats in NO_BEATS + odd_things():
            self.assert_text(OutOfPlace, behind, TWO_WHEELS, self.load, beats)
            self.assert_text(OutOfPlace, readings, TWO_WHEELS, self.load, beats)


class ToldAgain(WheelTest):
    def test_all(self):
        chance = random.Random(9)
        for machine in (TWICE, SEVERAL_LOTS, CHAIN, LONELY):
            load, other = random_load(machine, chance), random_load(machine, chance)
            self.assert_told_again(empty, machine)
            self.assert_told_again(one_at, machine, (0, 0))
            for call in (is_load, need_load, held, squares, read, beat):
                self.assert_told_again(call, machine, load)
            for call in (behind, readings):
                self.assert_told_again(call, machine, load, 5)
            self.assert_told_again(added, machine, load, other)
            self.assert_told_again(scaled, machine, load, (2, 3))
