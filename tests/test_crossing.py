"""MACHINES CROSSED OVER, PLACES, LOADS that go along."""

import random
from itertools import combinations

from evenwheels.crossing import crossed, load_crossed, places_crossed
from evenwheels.errors import BadLoad, OutOfPlace, TooGreat
from evenwheels.loads import beat, behind, empty, is_load, readings
from evenwheels.machines import is_machine, machine_of, spots
from evenwheels.rules import whole_rule
from evenwheels.shifts import g_of
from evenwheels.web import lots, web
from tests.support import (
    DEEP_LIST, DEEP_TUPLE, GREAT, HALF_ROUND, LONELY, MACHINES, MOST_CELLS_ALONE, MOST_WHEELS_ALL, ONE_CELL_TOUCHES,
    SEVERAL_LOTS, TWICE, TWO_WHEELS, Same, WheelTest, holds_of, load_of, odd_things, plain_beat, plain_read,
    random_load, some_machines, whole_load, within_itself,
)

NO_NUMBERS = [[], [0], (0, 0), (1, 0), (2,), (0, 2), (-1,), (-1, 0), (True,), (False,), (0, True), (0.0,), ("0",), "0",
              (None,), ((0,),), {0: 0}, range(1), 0, 1, None, (0, None), (10 ** 500,), (0, 1, 1), (0, 1, 2), (0, 0, 1),
              DEEP_TUPLE, DEEP_LIST, (within_itself(),), (Same(),), (0, Same())]
SIXTEEN = ((1,) * 14 + (8, 8), tuple(((14, p), (15, p)) for p in range(8)))


def some_numbers(machine, chance):
    many = len(machine[1])
    return tuple(sorted(chance.sample(range(many), chance.randint(0, many))))


def plain_next(machine, numbers):
    """Where each spot's rolls on to, crossed over."""
    goes = {(w, p): (w, (p - 1) % machine[0][w]) for w, p in spots(machine)}
    for number in numbers:
        one, other = machine[1][number]
        goes[one], goes[other] = goes[other], goes[one]
    return goes


def plain_rounds(machine, numbers):
    goes = plain_next(machine, numbers)
    left, found = set(goes), []
    while left:
        here = min(left)
        gone = []
        while here in left:
            left.remove(here)
            gone.append(here)
            here = goes[here]
        # From place 0 it rolls to the last place.
        found.append(gone[:1] + gone[:0:-1])
    return found


def too_great(machine, numbers):
    return len(plain_rounds(machine, numbers)) > 16


def some_crossings(seed, every):
    chance = random.Random(seed)
    asked = [(machine, some_numbers(machine, chance)) for machine in some_machines()[::every] for _ in range(3)]
    return [(machine, numbers) for machine, numbers in asked if not too_great(machine, numbers)]


class Crossed(WheelTest):
    def test_by_hand(self):
        # Two wheels are one: what rolls on from (0, 0) goes to (1, 2), what from (1, 0) to (0, 1).
        self.assertEqual(crossed(TWO_WHEELS, (0,)), ((5,), (((0, 0), (0, 2)),)))
        told = {(0, 0): (0, 0), (0, 1): (0, 1), (1, 0): (0, 2), (1, 1): (0, 3), (1, 2): (0, 4)}
        self.assertEqual(places_crossed(TWO_WHEELS, (0,)), told)
        # One is two.
        self.assertEqual(crossed(HALF_ROUND, (0,)), ((3, 3), (((0, 1), (1, 0)),)))
        self.assertEqual(crossed(ONE_CELL_TOUCHES, (0,)), ((5,), (((0, 0), (0, 1)),)))
        self.assertEqual(crossed(((1, 1), (((0, 0), (1, 0)),)), (0,)), ((2,), (((0, 0), (0, 1)),)))
        self.assertEqual(crossed(((2,), (((0, 0), (0, 1)),)), (0,)), ((1, 1), (((0, 0), (1, 0)),)))

    def test_at_no_touch_it_is_itself(self):
        for machine in some_machines():
            self.assertEqual(crossed(machine, ()), machine)
            self.assertEqual(places_crossed(machine, ()), {spot: spot for spot in spots(machine)})
            load = random_load(machine, random.Random(270))
            self.assertEqual(load_crossed(machine, load, ()), load)

    def test_just_as_a_second_telling(self):
        for machine, numbers in some_crossings(271, 1):
            told = crossed(machine, numbers)
            rounds = plain_rounds(machine, numbers)
            self.assertTrue(is_machine(told))
            self.assertEqual(told[0], tuple(len(gone) for gone in rounds))
            places = places_crossed(machine, numbers)
            self.assertIs(type(places), dict)
            self.assertEqual(list(places), list(spots(machine)))
            self.assertEqual(places, {old: (wheel, place) for wheel, gone in enumerate(rounds)
                                      for place, old in enumerate(gone)})
            self.assertEqual(sorted(places.values()), list(spots(told)))
            pairs = [(places[one], places[other]) for one, other in machine[1]]
            self.assertEqual(told, machine_of(told[0], pairs))

    def test_wheels_by_their_least_old_spots_at_place_nought(self):
        for machine, numbers in some_crossings(272, 2):
            places = places_crossed(machine, numbers)
            goes = plain_next(machine, numbers)
            counts = crossed(machine, numbers)[0]
            for old, (wheel, place) in places.items():
                self.assertEqual(places[goes[old]], (wheel, (place - 1) % counts[wheel]))
            firsts = [min(old for old in places if places[old][0] == wheel) for wheel in range(len(counts))]
            self.assertEqual(firsts, sorted(firsts))
            self.assertEqual([places[old] for old in firsts], [(wheel, 0) for wheel in range(len(counts))])

    def test_one_wheel_more_or_less_at_one_touch(self):
        for machine in some_machines():
            for touch in range(len(machine[1])):
                if not too_great(machine, (touch,)):
                    self.assertEqual(abs(len(crossed(machine, (touch,))[0]) - len(machine[0])), 1)

    def test_what_stays(self):
        for machine, numbers in some_crossings(273, 3):
            told = crossed(machine, numbers)
            places = places_crossed(machine, numbers)
            number_of = {tuple(sorted((places[one], places[other]))): at for at, (one, other) in enumerate(machine[1])}
            back = [number_of[pair] for pair in told[1]]
            mine = sorted((begin, goal, gap) for begin, _, goal, gap in web(machine))
            self.assertEqual(sorted((back[begin], back[goal], gap) for begin, _, goal, gap in web(told)), mine)
            self.assertEqual(whole_rule(told), whole_rule(machine))
            cells_of = {(sum(m[0][w] for w in lot), g_of(m, lot[0])): True for m in (machine,) for lot in lots(m)}
            again = {(sum(told[0][w] for w in lot), g_of(told, lot[0])): True for lot in lots(told)}
            self.assertEqual(again, cells_of)
            self.assertEqual(len(lots(told)), len(lots(machine)))

    def test_lots_of_touches_of_the_greatest(self):
        for machine in GREAT + [SIXTEEN]:
            many = len(machine[1])
            for size in (1, 2, many):
                for numbers in combinations(range(many), size):
                    if too_great(machine, numbers):
                        self.assert_text(TooGreat, crossed, machine, numbers)
                    else:
                        self.assertEqual(crossed(machine, numbers)[0], tuple(map(len, plain_rounds(machine, numbers))))


class LoadCrossed(WheelTest):
    def test_by_hand(self):
        load = whole_load([1, 2], [3, 4, 5])
        self.assertEqual(load_crossed(TWO_WHEELS, load, (0,)), whole_load([1, 2, 3, 4, 5]))
        load = whole_load([1, 2, 3, 4, 5, 6])
        self.assertEqual(load_crossed(HALF_ROUND, load, (0,)), whole_load([1, 5, 6], [2, 3, 4]))

    def test_by_places(self):
        chance = random.Random(274)
        for machine, numbers in some_crossings(275, 2):
            load = random_load(machine, chance)
            told = load_crossed(machine, load, numbers)
            self.assertTrue(is_load(crossed(machine, numbers), told))
            for (wheel, place), (across, beside) in places_crossed(machine, numbers).items():
                self.assertEqual(told[across][beside], load[wheel][place])

    def test_all_is_the_same_beat_by_beat(self):
        chance = random.Random(276)
        for machine, numbers in some_crossings(277, 2):
            then = crossed(machine, numbers)
            places = places_crossed(machine, numbers)
            number_of = [then[1].index(tuple(sorted((places[one], places[other])))) for one, other in machine[1]]
            load = random_load(machine, chance)
            along = load_crossed(machine, load, numbers)
            mine, yours = readings(machine, load, 9), readings(then, along, 9)
            self.assertEqual([[reading[at] for at in number_of] for reading in yours], [list(row) for row in mine])
            for _ in range(4):
                load, along = beat(machine, load), beat(then, along)
                self.assertEqual(load_crossed(machine, load, numbers), along)
            self.assertEqual(behind(then, along, 20), load_crossed(machine, behind(machine, load, 20), numbers))

    def test_by_a_plain_second_telling_of_a_beat(self):
        chance = random.Random(278)
        for machine, numbers in some_crossings(279, 4):
            then, places = crossed(machine, numbers), places_crossed(machine, numbers)
            holds = holds_of(random_load(machine, chance))
            along = {places[spot]: worth for spot, worth in holds.items()}
            self.assertEqual(sorted(plain_read(then, along)), sorted(plain_read(machine, holds)))
            beaten = {places[spot]: worth for spot, worth in plain_beat(machine, holds).items()}
            self.assertEqual(load_of(then, plain_beat(then, along)), load_of(then, beaten))


class Refused(WheelTest):
    def test_touches(self):
        for thing in NO_NUMBERS + [thing for thing in odd_things() if thing != ()]:
            self.assert_text(OutOfPlace, crossed, TWICE, thing)
            self.assert_text(OutOfPlace, places_crossed, TWICE, thing)
            self.assert_text(OutOfPlace, load_crossed, TWICE, empty(TWICE), thing)
        for call in (crossed, places_crossed):
            self.assert_text(OutOfPlace, call, LONELY, (0,))
            self.assert_text(OutOfPlace, call, MOST_CELLS_ALONE, (7, 8))

    def test_bad_loads_ahead_of_touches(self):
        for touches in ((0,), (2,), None, [0]):
            self.assert_place(BadLoad, None, load_crossed, TWICE, empty(TWO_WHEELS), touches)
            self.assert_place(BadLoad, (1, 0), load_crossed, TWO_WHEELS, (((0, 1),) * 2, (None,) * 3), touches)
            for thing in odd_things():
                self.assert_place(BadLoad, None, load_crossed, TWICE, thing, touches)

    def test_a_seventeenth_wheel(self):
        # Fourteen of one cell, one of ten and one of six that touches itself.
        machine = ((1,) * 14 + (10, 6), (((14, 0), (15, 0)), ((15, 1), (15, 4))))
        self.assert_text(TooGreat, crossed, machine, (1,))
        self.assert_text(TooGreat, places_crossed, machine, (1,))
        self.assert_text(TooGreat, load_crossed, machine, empty(machine), (1,))
        self.assert_place(BadLoad, None, load_crossed, machine, empty(TWICE), (1,))
        self.assertEqual(len(crossed(machine, (0,))[0]), 15)
        self.assertEqual(len(crossed(machine, (0, 1))[0]), 16)
        fifteen = ((1,) * 14 + (6,), (((14, 1), (14, 4)),))
        self.assertEqual(len(crossed(fifteen, (0,))[0]), 16)
        # Of eight touches of one wheel: crossed over at all, nine wheels.
        nested = ((16,), tuple(((0, p), (0, 15 - p)) for p in range(8)))
        self.assertEqual(len(crossed(nested, tuple(range(8)))[0]), len(plain_rounds(nested, range(8))))


class NoMachine(WheelTest):
    def test_ahead_of_all_else(self):
        for call, many in ((crossed, 1), (places_crossed, 1), (load_crossed, 2)):
            self.assert_no_machine_ahead(call, *[None] * many)

    def test_by_names_and_told_again(self):
        load = whole_load([1, 2], [3, 4, 5])
        self.assertEqual(crossed(machine=TWO_WHEELS, touches=(0,)), crossed(TWO_WHEELS, (0,)))
        self.assertEqual(places_crossed(machine=TWO_WHEELS, touches=()), {spot: spot for spot in spots(TWO_WHEELS)})
        self.assertEqual(load_crossed(machine=TWO_WHEELS, load=load, touches=()), load)
        for machine in MACHINES:
            numbers = tuple(range(len(machine[1])))
            if not too_great(machine, numbers):
                self.assert_told_again(crossed, machine, numbers)
                self.assert_told_again(places_crossed, machine, numbers)
                self.assert_told_again(load_crossed, machine, empty(machine), numbers)
        spoilt = places_crossed(SEVERAL_LOTS, (0, 1))
        spoilt.clear()
        self.assertEqual(len(places_crossed(SEVERAL_LOTS, (0, 1))), 23)
        self.assertEqual(crossed(MOST_WHEELS_ALL, (0,))[0], (16,) + (1,) * 14)
