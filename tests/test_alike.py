"""NAMES: what they are, MACHINES NAMED, NAMES from one to another, by how many one is itself."""

import random
from itertools import permutations, product
from math import factorial

from evenwheels.alike import are_names, code_of, many_names, named, names_between
from evenwheels.crossing import crossed, places_crossed
from evenwheels.errors import BadMachine, OutOfPlace, TooGreat
from evenwheels.loads import readings
from evenwheels.machines import is_machine
from evenwheels.rules import whole_rule
from tests.support import (
    BACKWARD, CHAIN, DEEP_LIST, DEEP_TUPLE, GREAT, HALF_ROUND, LONELY, MACHINES, MOST_CELLS_ALONE, MOST_WHEELS_ALL,
    ONE_CELL, SEVERAL_LOTS, TWICE, TWO_WHEELS, Same, WheelTest, even_machine, odd_things, random_load, random_machine,
    some_machines, some_names, within_itself,
)

NO_NAMES = [(), ((0, 0),), ((0, 0), (1, 0), (2, 0)), [(0, 0), (1, 0)], ((0, 0), (0, 0)), ((1, 0), (1, 0)),
            ((0, 0), (2, 0)), ((-1, 0), (0, 0)), ((0, 2), (1, 0)), ((0, 0), (1, 3)), ((1, 2), (0, 0)),
            ((0, -1), (1, 0)),
            ((0, 0), [1, 0]), ((0, 0), (1,)), ((0, 0), (1, 0, 0)), ((False, 0), (True, 0)), ((0, False), (1, 0)),
            ((0.0, 0), (1, 0)), ((0, 0), None), (None, (1, 0)), ((0, 0), (1, "0")), {0: (0, 0), 1: (1, 0)}, "ab",
            ((0, 0), (10 ** 500, 0)), DEEP_TUPLE, DEEP_LIST, within_itself(), (Same(), Same()), ((0, Same()), (1, 0))]


def all_names(machine):
    counts = machine[0]
    return [tuple(zip(numbers, turns)) for numbers in permutations(range(len(counts)))
            for turns in product(*[range(count) for count in counts])]


def plain_named(machine, names):
    counts = [None] * len(names)
    for wheel, (number, _) in enumerate(names):
        counts[number] = machine[0][wheel]
    told = {(w, p): (names[w][0], (p + names[w][1]) % machine[0][w]) for w, count in enumerate(machine[0])
            for p in range(count)}
    return (tuple(counts), tuple(sorted(tuple(sorted((told[one], told[other]))) for one, other in machine[1])))


def too_great(machine, numbers):
    try:
        crossed(machine, tuple(sorted(numbers)))
    except TooGreat:
        return True
    return False


def number_then(machine, numbers, touch):
    """The number that a touch has in what is crossed over at these."""
    places = places_crossed(machine, numbers)
    pair = tuple(sorted(places[spot] for spot in machine[1][touch]))
    return crossed(machine, numbers)[1].index(pair)


def small_machines(seed, many):
    chance = random.Random(seed)
    found = []
    while len(found) < many:
        machine = chance.choice([random_machine, even_machine])(chance)
        if len(machine[0]) <= 4 and sum(machine[0]) <= 9:
            found.append(machine)
    return found


class AreNames(WheelTest):
    def test_names(self):
        self.assertIs(are_names(TWO_WHEELS, ((0, 0), (1, 0))), True)
        self.assertIs(are_names(TWO_WHEELS, ((1, 1), (0, 2))), True)
        self.assertIs(are_names(ONE_CELL, ((0, 0),)), True)
        for machine in small_machines(301, 12):
            for names in all_names(machine):
                self.assertIs(are_names(machine, names), True)

    def test_none(self):
        for thing in NO_NAMES + odd_things():
            self.assertIs(are_names(TWO_WHEELS, thing), False)
            self.assert_text(OutOfPlace, named, TWO_WHEELS, thing)
        # The turn is below the count of the wheel itself, not of the one whose number it gets.
        self.assertIs(are_names(((2, 5), ()), ((1, 4), (0, 0))), False)
        self.assertIs(are_names(((2, 5), ()), ((1, 1), (0, 4))), True)


class Named(WheelTest):
    def test_by_hand(self):
        self.assertEqual(named(TWO_WHEELS, ((1, 1), (0, 2))), ((3, 2), (((0, 2), (1, 1)),)))
        self.assertEqual(named(HALF_ROUND, ((0, 5),)), ((6,), (((0, 0), (0, 3)),)))
        self.assertEqual(named(((1, 2, 3), ()), ((2, 0), (0, 1), (1, 2))), ((2, 3, 1), ()))
        self.assertEqual(named(TWICE, ((0, 2), (1, 0))), ((4, 6), (((0, 0), (1, 3)), ((0, 2), (1, 1)))))

    def test_just_as_a_second_telling(self):
        chance = random.Random(302)
        for machine in some_machines():
            for _ in range(3):
                names = some_names(machine, chance)
                told = named(machine, names)
                self.assertTrue(is_machine(told))
                self.assertEqual(told, plain_named(machine, names))
            self.assertEqual(named(machine, tuple((wheel, 0) for wheel in range(len(machine[0])))), machine)

    def test_a_load_named_is_read_alike(self):
        chance = random.Random(303)
        for machine in some_machines()[::3]:
            names = some_names(machine, chance)
            load = random_load(machine, chance)
            rows = [None] * len(load)
            for (number, turn), row in zip(names, load):
                rows[number] = row[-turn:] + row[:-turn] if turn else row
            mine, yours = readings(machine, load, 5), readings(named(machine, names), tuple(rows), 5)
            self.assertEqual([sorted(reading) for reading in mine], [sorted(reading) for reading in yours])
            self.assertEqual(whole_rule(named(machine, names)), whole_rule(machine))


class NamesBetween(WheelTest):
    def test_by_hand(self):
        self.assertEqual(names_between(TWO_WHEELS, ((3, 2), (((0, 2), (1, 1)),))), ((1, 1), (0, 2)))
        self.assertEqual(names_between(HALF_ROUND, ((6,), (((0, 2), (0, 5)),))), ((0, 1),))
        self.assertEqual(names_between(HALF_ROUND, HALF_ROUND), ((0, 0),))
        self.assertIsNone(names_between(HALF_ROUND, ((6,), (((0, 2), (0, 4)),))))
        self.assertIsNone(names_between(HALF_ROUND, ((6,), ())))
        self.assertIsNone(names_between(((1, 2), ()), ((1, 1), ())))
        self.assertIsNone(names_between(((1, 2), ()), ((1, 2, 1), ())))
        self.assertEqual(names_between(((1, 2, 1), ()), ((1, 1, 2), ())), ((0, 0), (2, 0), (1, 0)))

    def test_what_fits_touch_by_touch_but_not_at_all(self):
        # Two wheels that touch twice, crosswise or not, and two by themselves: each of these looks so from within.
        apart = ((4, 4), (((0, 0), (0, 2)), ((1, 0), (1, 2))))
        together = ((4, 4), (((0, 0), (1, 0)), ((0, 2), (1, 2))))
        self.assertIsNone(names_between(apart, together))
        self.assertIsNone(names_between(together, apart))
        self.assertNotEqual(code_of(apart), code_of(together))
        # One lot folded on another one that is half of it, beside what has all counts alike.
        twofold = ((4, 4, 2, 2), (((0, 0), (1, 0)), ((0, 2), (1, 2)), ((2, 0), (2, 1)), ((3, 0), (3, 1))))
        single = ((4, 4, 2, 2), (((0, 0), (0, 2)), ((1, 0), (1, 2)), ((2, 0), (3, 0)), ((2, 1), (3, 1))))
        self.assertIsNone(names_between(twofold, single))
        self.assertIsNone(names_between(single, twofold))
        self.assertNotEqual(code_of(twofold), code_of(single))
        # A ring of three wheels; two that touch twice beside one that touches itself: all wheels look alike alone.
        ring = ((4, 4, 4), (((0, 0), (1, 0)), ((0, 2), (2, 2)), ((1, 2), (2, 0))))
        beside = ((4, 4, 4), (((0, 0), (1, 0)), ((0, 2), (1, 2)), ((2, 0), (2, 2))))
        self.assertIsNone(names_between(beside, ring))
        self.assertIsNone(names_between(ring, beside))
        self.assertNotEqual(code_of(ring), code_of(beside))
        fewer = ((4, 4), (((0, 0), (1, 0)), ((0, 1), (1, 1))))
        self.assertIsNone(names_between(together, fewer))

    def test_the_least_of_all(self):
        chance = random.Random(304)
        machines = small_machines(305, 90)
        for machine in machines:
            other = named(machine, some_names(machine, chance))
            self.assertEqual(names_between(machine, other), min(
                names for names in all_names(machine) if plain_named(machine, names) == other))

    def test_just_where_there_are_names(self):
        machines = small_machines(306, 60)
        found = 0
        for machine in machines:
            for other in machines:
                if sorted(machine[0]) == sorted(other[0]) and len(machine[1]) == len(other[1]):
                    fitting = [names for names in all_names(machine) if plain_named(machine, names) == other]
                    self.assertEqual(names_between(machine, other), min(fitting, default=None))
                    self.assertEqual(code_of(machine) == code_of(other), bool(fitting))
                    found += not fitting
        self.assertGreater(found, 20)

    def test_the_greatest_machines(self):
        chance = random.Random(307)
        for machine in GREAT + MACHINES + [((1,) * 16, ()), ((2,) * 15, ()), ((15, 15), (((0, 3), (1, 4)),))]:
            names = some_names(machine, chance)
            told = names_between(machine, named(machine, names))
            self.assertLessEqual(told, names)
            self.assertEqual(named(machine, told), named(machine, names))
            self.assertEqual(code_of(named(machine, names)), code_of(machine))
            for kind in (told, *told):
                self.assertIs(type(kind), tuple)


class ManyNames(WheelTest):
    def test_by_hand(self):
        self.assertEqual(many_names(ONE_CELL), 1)
        self.assertEqual(many_names(LONELY), 5)
        self.assertEqual(many_names(HALF_ROUND), 2)
        self.assertEqual(many_names(TWO_WHEELS), 1)
        # Both touches of it go round by half.
        self.assertEqual(many_names(((4,), (((0, 0), (0, 1)), ((0, 2), (0, 3))))), 2)
        self.assertEqual(many_names(((4,), (((0, 0), (0, 2)), ((0, 1), (0, 3))))), 4)
        self.assertEqual(many_names(((3, 3), (((0, 0), (1, 1)),))), 2)
        # But for the lone wheel of two none can go elsewhere.
        self.assertEqual(many_names(SEVERAL_LOTS), 2)

    def test_many_wheels(self):
        self.assertEqual(many_names(((1,) * 16, ())), factorial(16))
        self.assertEqual(many_names(((2,) * 15, ())), factorial(15) * 2 ** 15)
        self.assertEqual(many_names(((15, 15), ())), 2 * 15 * 15)
        self.assertEqual(many_names(((15, 15), (((0, 3), (1, 4)),))), 2)
        self.assertEqual(many_names(((15, 15), tuple(((0, p), (1, p)) for p in range(8)))), 2)
        self.assertEqual(many_names(MOST_WHEELS_ALL), factorial(7))
        pairs = ((1,) * 16, tuple(((2 * k, 0), (2 * k + 1, 0)) for k in range(8)))
        self.assertEqual(many_names(pairs), factorial(8) * 2 ** 8)
        self.assertEqual(many_names(((16,), tuple(((0, p), (0, p + 8)) for p in range(8)))), 16)

    def test_just_as_many_as_there_are(self):
        for machine in small_machines(308, 90):
            wanted = sum(plain_named(machine, names) == machine for names in all_names(machine))
            self.assertEqual(many_names(machine), wanted)

    def test_named_otherwise_it_has_as_many(self):
        chance = random.Random(309)
        for machine in some_machines():
            self.assertEqual(many_names(named(machine, some_names(machine, chance))), many_names(machine))


class CrossedOver(WheelTest):
    def test_once_more_at_one_touch_it_is_alike_itself(self):
        for machine in some_machines():
            for touch in range(len(machine[1])):
                if not too_great(machine, (touch,)):
                    then = crossed(machine, (touch,))
                    again = crossed(then, (number_then(machine, (touch,), touch),))
                    self.assertIsNotNone(names_between(again, machine))

    def test_one_by_one_in_any_order(self):
        chance = random.Random(311)
        asked = 0
        for machine in some_machines():
            many = len(machine[1])
            order = chance.sample(range(many), min(3, many))
            if any(too_great(machine, order[:at]) for at in range(len(order) + 1)):
                continue
            # Where each touch stands now, by its number at first.
            now, numbers = machine, {touch: touch for touch in range(many)}
            for touch in order:
                step = (numbers[touch],)
                numbers = {first: number_then(now, step, number) for first, number in numbers.items()}
                now = crossed(now, step)
            self.assertIsNotNone(names_between(now, crossed(machine, tuple(sorted(order)))))
            asked += len(order) > 1
        self.assertGreater(asked, 30)


class NoMachine(WheelTest):
    def test_ahead_of_all_else(self):
        for call, many in ((are_names, 1), (named, 1), (names_between, 1), (many_names, 0)):
            self.assert_no_machine_ahead(call, *[None] * many)

    def test_the_second_behind_the_first(self):
        self.assert_no_machine_ahead(lambda other: names_between(TWICE, other))
        self.assert_place(BadMachine, "touches", names_between, ((1,), []), ((), ()))

    def test_by_names_and_told_again(self):
        self.assertIs(are_names(machine=ONE_CELL, thing=((0, 0),)), True)
        self.assertEqual(named(machine=ONE_CELL, names=((0, 0),)), ONE_CELL)
        self.assertEqual(names_between(machine=ONE_CELL, other=ONE_CELL), ((0, 0),))
        self.assertEqual(many_names(machine=ONE_CELL), 1)
        chance = random.Random(310)
        for machine in MACHINES + [MOST_CELLS_ALONE, CHAIN, BACKWARD]:
            names = some_names(machine, chance)
            self.assert_told_again(are_names, machine, names)
            self.assert_told_again(named, machine, names)
            self.assert_told_again(names_between, machine, named(machine, names))
            self.assert_told_again(many_names, machine)
