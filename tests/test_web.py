"""The WEB: LOTS, WAYS, and what is read by WAYS alone."""

import random

from evenwheels.errors import BadLoad, BadMachine, BadSpot, NoTouch, OutOfPlace
from evenwheels.loads import empty, readings
from evenwheels.machines import spots
from evenwheels.web import has_touch, lot_of, lots, way_from, ways_to, web, web_readings
from tests.support import (
    BACKWARD, CHAIN, HALF_ROUND, LONELY, MACHINES, MOST_CELLS_ALONE, MOST_WHEELS_ALL, ONE_CELL, ONE_CELL_TOUCHES,
    SEVERAL_LOTS, TWICE, TWO_WHEELS, UNEVEN_ROUND, WINDING, WheelTest, odd_things, random_load, some_machines,
    whole_load,
)


class Lots(WheelTest):
    def test_by_hand(self):
        self.assertEqual(lots(ONE_CELL), ((0,),))
        self.assertEqual(lots(HALF_ROUND), ((0,),))
        self.assertEqual(lots(TWO_WHEELS), ((0, 1),))
        self.assertEqual(lots(((2, 2, 2), ())), ((0,), (1,), (2,)))
        self.assertEqual(lots(SEVERAL_LOTS), ((0, 2), (1, 4), (3,)))
        self.assertEqual(lots(CHAIN), ((0, 1, 2),))
        self.assertEqual(lots(WINDING), ((0, 1, 2),))
        self.assertEqual(lots(BACKWARD), ((0, 1, 2, 3),))
        self.assertEqual(lots(MOST_WHEELS_ALL), ((0, 1, 2, 3, 4, 5, 6, 7, 15),) + tuple((k,) for k in range(8, 15)))

    def test_a_long_chain_told_from_its_far_end(self):
        machine = ((2,) * 9, tuple(((8 - k - 1, 0), (8 - k, 1)) for k in range(7, -1, -1)))
        self.assertEqual(lots(machine), (tuple(range(9)),))
        winding = ((2,) * 6, (((0, 0), (5, 0)), ((1, 0), (4, 1)), ((1, 1), (5, 1)), ((2, 0), (4, 0)), ((2, 1), (3, 1))))
        self.assertEqual(lots(winding), ((0, 1, 2, 3, 4, 5),))
        self.assertEqual(lot_of(winding, 3), (0, 1, 2, 3, 4, 5))

    def test_lot_of(self):
        for machine in some_machines():
            told = lots(machine)
            self.assertIs(type(told), tuple)
            self.assertEqual(sorted(wheel for lot in told for wheel in lot), list(range(len(machine[0]))))
            self.assertEqual(list(told), sorted(told))
            for lot in told:
                self.assertIs(type(lot), tuple)
                self.assertEqual(list(lot), sorted(lot))
                for wheel in lot:
                    self.assertEqual(lot_of(machine, wheel), lot)

    def test_by_touches_alone(self):
        for machine in some_machines():
            together = {wheel: {wheel} for wheel in range(len(machine[0]))}
            for one, other in machine[1]:
                both = together[one[0]] | together[other[0]]
                for wheel in both:
                    together[wheel] = both
            self.assertEqual(lots(machine), tuple(sorted({tuple(sorted(both)) for both in together.values()})))

    def test_has_touch(self):
        self.assertEqual([has_touch(SEVERAL_LOTS, lot) for lot in lots(SEVERAL_LOTS)], [True, True, False])

    def test_wheels_that_are_none(self):
        for thing in odd_things() + [5, -1, (0,), "0", 10 ** 500]:
            self.assert_text(OutOfPlace, lot_of, SEVERAL_LOTS, thing)

    def test_by_names(self):
        self.assertEqual(lots(machine=TWO_WHEELS), ((0, 1),))
        self.assertEqual(lot_of(machine=TWO_WHEELS, wheel=1), (0, 1))


class Ways(WheelTest):
    def test_a_wheel_that_touches_itself(self):
        self.assertEqual(web(HALF_ROUND), ((0, (0, 1), 0, 3), (0, (0, 4), 0, 3)))
        self.assertEqual(web(UNEVEN_ROUND), ((0, (0, 0), 0, 5), (0, (0, 2), 0, 2)))

    def test_one_touch_alone(self):
        self.assertEqual(web(TWO_WHEELS), ((0, (0, 0), 0, 2), (0, (1, 0), 0, 3)))
        self.assertEqual(web(ONE_CELL_TOUCHES), ((0, (0, 0), 0, 1), (0, (1, 2), 0, 4)))

    def test_two_wheels_that_touch_twice(self):
        told = ((0, (0, 0), 1, 2), (0, (1, 1), 1, 4), (1, (0, 2), 0, 2), (1, (1, 3), 0, 2))
        self.assertEqual(web(TWICE), told)

    def test_several_lots(self):
        told = ((0, (0, 1), 0, 3), (0, (2, 2), 0, 6), (1, (1, 0), 2, 2), (1, (4, 1), 2, 2), (2, (1, 2), 1, 2),
                (2, (4, 7), 1, 6))
        self.assertEqual(web(SEVERAL_LOTS), told)

    def test_no_ways(self):
        self.assertEqual(web(LONELY), ())
        self.assertEqual(web(ONE_CELL), ())

    def test_each_way_step_by_step(self):
        for machine in some_machines():
            touch_at = {spot: number for number, pair in enumerate(machine[1]) for spot in pair}
            for spot, number in touch_at.items():
                wheel, place = spot
                beats = 0
                while beats == 0 or (wheel, place) not in touch_at:
                    place = place - 1 if place > 0 else machine[0][wheel] - 1
                    beats += 1
                self.assertEqual(way_from(machine, spot), (number, spot, touch_at[(wheel, place)], beats))

    def test_all_ways_rising(self):
        for machine in some_machines():
            told = web(machine)
            self.assertIs(type(told), tuple)
            self.assertEqual(list(told), sorted(told))
            self.assertEqual(told, tuple(way_from(machine, spot) for pair in machine[1] for spot in pair))
            for touch in range(len(machine[1])):
                self.assertEqual(len([way for way in told if way[0] == touch]), 2)

    def test_ways_to(self):
        self.assertEqual(ways_to(TWICE, 0), ((1, (0, 2), 0, 2), (1, (1, 3), 0, 2)))
        self.assertEqual(ways_to(TWICE, 1), ((0, (0, 0), 1, 2), (0, (1, 1), 1, 4)))
        self.assertEqual(ways_to(HALF_ROUND, 0), web(HALF_ROUND))
        for machine in some_machines():
            for touch in range(len(machine[1])):
                self.assertEqual(len(ways_to(machine, touch)), 2)
                self.assertEqual(ways_to(machine, touch), tuple(way for way in web(machine) if way[2] == touch))

    def test_gaps_round_a_wheel_are_its_count(self):
        for machine in some_machines():
            for wheel, count in enumerate(machine[0]):
                gaps = [gap for _, spot, _, gap in web(machine) if spot[0] == wheel]
                self.assertIn(sum(gaps), (count, 0))
                self.assertEqual(len(gaps), sum(spot[0] == wheel for pair in machine[1] for spot in pair))

    def test_spots_of_no_touch(self):
        for machine in some_machines():
            touching = [spot for pair in machine[1] for spot in pair]
            for spot in spots(machine):
                if spot not in touching:
                    self.assert_text(NoTouch, way_from, machine, spot)

    def test_no_spots(self):
        for machine in (TWICE, LONELY):
            for thing in odd_things() + [(0, 9), (9, 0), (-1, 0), (0, -1), [0, 0], (False, 0), (0, False), (0, 0, 0)]:
                self.assert_place(BadSpot, None, way_from, machine, thing)

    def test_no_numbers_of_touches(self):
        for thing in odd_things() + [True, False, -1, 2, "0", (0,), 0.0, 10 ** 500]:
            self.assert_text(NoTouch, ways_to, TWICE, thing)
        self.assert_text(NoTouch, ways_to, LONELY, 0)

    def test_by_names(self):
        self.assertEqual(web(machine=HALF_ROUND), web(HALF_ROUND))
        self.assertEqual(way_from(machine=HALF_ROUND, spot=(0, 4)), (0, (0, 4), 0, 3))
        self.assertEqual(ways_to(machine=HALF_ROUND, touch=0), web(HALF_ROUND))


class WebReadings(WheelTest):
    def test_by_hand(self):
        load = whole_load([1, 2], [5, 6, 7])
        told = [((3, 1),), ((4, 1),), ((5, 1),), ((7, 2),), ((9, 2),)]
        self.assertEqual(web_readings(TWO_WHEELS, load, 5), told)
        self.assertEqual(web_readings(LONELY, whole_load([1, 2, 3, 4, 5]), 2), [(), ()])

    def test_just_as_beat_by_beat(self):
        chance = random.Random(11)
        for machine in some_machines():
            load = random_load(machine, chance)
            for beats in (0, 1, 2, 7, 70):
                self.assertEqual(web_readings(machine, load, beats), readings(machine, load, beats))

    def test_many_beats(self):
        chance = random.Random(12)
        for machine in (TWICE, CHAIN, MOST_CELLS_ALONE, MOST_WHEELS_ALL, HALF_ROUND, ONE_CELL_TOUCHES):
            load = random_load(machine, chance)
            self.assertEqual(web_readings(machine, load, 300), readings(machine, load, 300))

    def test_kinds(self):
        told = web_readings(TWICE, random_load(TWICE, random.Random(13)), 4)
        self.assertIs(type(told), list)
        self.assertEqual([type(row) for row in told], [tuple] * 4)
        self.assert_fractions(told)
        self.assertEqual(web_readings(machine=TWICE, load=empty(TWICE), beats=1), [((0, 1), (0, 1))])

    def test_refused(self):
        good = empty(TWO_WHEELS)
        bad = (((1, 1), (1, 1)), ((1, 1), (2, 4), None))
        self.assert_place(BadLoad, (1, 1), web_readings, TWO_WHEELS, bad, -1)
        for thing in odd_things():
            self.assert_place(BadLoad, None, web_readings, TWO_WHEELS, thing, thing)
            self.assert_text(OutOfPlace, web_readings, TWO_WHEELS, good, thing)
        for beats in (-1, 301, "1", 10 ** 500):
            self.assert_text(OutOfPlace, web_readings, TWO_WHEELS, good, beats)


class NoMachine(WheelTest):
    def test_ahead_of_all_else(self):
        for thing in odd_things() + [((0,), ()), ((2, 3), [])]:
            for call in (lots, web):
                self.assert_bad(call, thing)
            for call in (lot_of, way_from, ways_to):
                self.assert_bad(call, thing, None)
            self.assert_bad(web_readings, thing, None, None)
        self.assert_place(BadMachine, "counts", lot_of, ((), ()), None)
        self.assert_place(BadMachine, "touches", web, ((1,), []))

    def assert_bad(self, call, *args):
        with self.assertRaises(BadMachine):
            call(*args)

    def test_told_again(self):
        chance = random.Random(14)
        for machine in MACHINES:
            for call in (lots, web):
                self.assert_told_again(call, machine)
            self.assert_told_again(lot_of, machine, 0)
            self.assert_told_again(web_readings, machine, random_load(machine, chance), 5)
            if machine[1]:
                self.assert_told_again(way_from, machine, machine[1][0][0])
                self.assert_told_again(ways_to, machine, 0)
