"""FREE SPOTS, pairs PUT ON, TOUCHES LIFTED, what they do to G and to classes, and witnesses."""

import random

from evenwheels.classes import classes
from evenwheels.closed import is_closed, length
from evenwheels.ends import evened
from evenwheels.errors import BadSpot, Never, NoTouch, OutOfPlace, TooGreat
from evenwheels.machines import cells, is_machine, machine_of, spots
from evenwheels.more import (
    best_pairs, free_spots, g_with, how_many_classes, idle_pairs, is_idle, lifted, put_on, witness,
)
from evenwheels.shifts import g_of, miss
from evenwheels.web import lot_of, lots
from tests.support import (
    CHAIN, EIGHT, GREAT, HALF_ROUND, LONELY, MACHINES, MOST_CELLS_ALONE, MOST_WHEELS_ALL, NEIGHBOURS, ONE_CELL,
    SEVERAL_LOTS, TWICE, TWO_WHEELS, UNEVEN_ROUND, Same, WheelTest, odd_things, plain_classes, random_load,
    some_machines,
)

NO_FREE = [(0, 4), (2, 0), (-1, 0), (0, -1), [0, 1], (False, 1), (0, True), (0, 1, 0), (0,), (0.0, 1), Same(),
           (0, 0), (0, 2), (1, 1), (1, 3)]
ASKING = (put_on, g_with, is_idle, witness)
# Two lots whose G's are 4 and 6, and one of a lone wheel of 3.
THREE_LOTS = ((4, 8, 6, 6, 3), (((0, 0), (1, 1)), ((2, 2), (3, 5))))
ALL_TAKEN = ((2, 2), (((0, 0), (1, 0)), ((0, 1), (1, 1))))
ONE_FREE = ((3,), (((0, 0), (0, 1)),))


def free_of(machine):
    taken = [spot for pair in machine[1] for spot in pair]
    return [spot for spot in spots(machine) if spot not in taken]


def free_pairs(machine):
    free = free_of(machine)
    return [(one, other) for one in free for other in free if one < other]


def joined(machine, one, other):
    """What has the pair, too, be it of nine touches."""
    return (machine[0], tuple(sorted(machine[1] + (tuple(sorted((one, other))),))))


def plain_g(machine, wheel):
    """In how many classes a wheel has spots, by a plain second telling."""
    return sum(any(spot[0] == wheel for spot in members) for members in plain_classes(machine))


class FreeSpots(WheelTest):
    def test_by_hand(self):
        self.assertEqual(free_spots(ONE_CELL), ((0, 0),))
        self.assertEqual(free_spots(HALF_ROUND), ((0, 0), (0, 2), (0, 3), (0, 5)))
        self.assertEqual(free_spots(TWO_WHEELS), ((0, 1), (1, 1), (1, 2)))
        self.assertEqual(free_spots(ALL_TAKEN), ())
        for machine in some_machines():
            self.assertIs(type(free_spots(machine)), tuple)
            self.assertEqual(list(free_spots(machine)), free_of(machine))


class PutOnAndLifted(WheelTest):
    def test_by_hand(self):
        told = ((2, 3), (((0, 0), (1, 0)), ((0, 1), (1, 2))))
        self.assertEqual(put_on(TWO_WHEELS, (0, 1), (1, 2)), told)
        self.assertEqual(put_on(TWO_WHEELS, (1, 2), (0, 1)), told)
        self.assertEqual(put_on(TWO_WHEELS, (1, 2), (1, 1)), ((2, 3), (((0, 0), (1, 0)), ((1, 1), (1, 2)))))
        self.assertEqual(lifted(told, 0), ((2, 3), (((0, 1), (1, 2)),)))
        self.assertEqual(lifted(told, 1), TWO_WHEELS)
        self.assertEqual(put_on(HALF_ROUND, (0, 3), (0, 0)), ((6,), (((0, 0), (0, 3)), ((0, 1), (0, 4)))))

    def test_put_on_and_lifted_again(self):
        chance = random.Random(251)
        for machine in some_machines():
            pairs = free_pairs(machine)
            for one, other in chance.sample(pairs, min(len(pairs), 5)):
                if len(machine[1]) == 8:
                    self.assert_text(TooGreat, put_on, machine, one, other)
                    self.assert_text(TooGreat, put_on, machine, other, one)
                    continue
                told = put_on(machine, one, other)
                self.assertTrue(is_machine(told))
                self.assertEqual(told, machine_of(machine[0], list(machine[1]) + [(one, other)]))
                self.assertEqual(put_on(machine, other, one), told)
                self.assertEqual(lifted(told, told[1].index((one, other))), machine)
            for touch, (one, other) in enumerate(machine[1]):
                told = lifted(machine, touch)
                self.assertEqual(put_on(told, other, one), machine)

    def test_no_touch(self):
        for thing in [2, -1, (0,), 10 ** 500] + odd_things():
            self.assert_text(NoTouch, lifted, TWICE, thing)
        self.assert_text(NoTouch, lifted, LONELY, 0)
        self.assert_text(NoTouch, lifted, MOST_CELLS_ALONE, 8)


class BadSpots(WheelTest):
    def test_the_first_ahead_of_the_other(self):
        for call in ASKING:
            for thing in NO_FREE + odd_things():
                self.assert_place(BadSpot, 0, call, TWICE, thing, (0, 1))
                self.assert_place(BadSpot, 0, call, TWICE, thing, thing)
                self.assert_place(BadSpot, 0, call, TWICE, thing, None)
                self.assert_place(BadSpot, 1, call, TWICE, (0, 1), thing)
            self.assert_place(BadSpot, 1, call, TWICE, (0, 1), (0, 1))
            self.assert_place(BadSpot, 0, call, ONE_CELL, (0, 1), (0, 0))
            self.assert_place(BadSpot, 1, call, ONE_CELL, (0, 0), (0, 0))

    def test_ahead_of_too_great_and_all_else(self):
        for call in ASKING:
            self.assert_place(BadSpot, 0, call, MOST_CELLS_ALONE, (0, 0), (0, 20))
            self.assert_place(BadSpot, 1, call, MOST_CELLS_ALONE, (0, 20), (0, 0))
            self.assert_place(BadSpot, 1, call, MOST_CELLS_ALONE, (0, 20), (0, 20))
        for call in (put_on, witness):
            self.assert_text(TooGreat, call, MOST_CELLS_ALONE, (0, 20), (0, 21))
            self.assert_text(TooGreat, call, MOST_WHEELS_ALL, (8, 0), (9, 0))


class GWith(WheelTest):
    def test_by_hand(self):
        self.assertEqual(g_with(LONELY, (0, 1), (0, 4)), 1)
        self.assertEqual(g_with(((12,), ()), (0, 1), (0, 9)), 4)
        self.assertEqual(g_with(((12,), ()), (0, 9), (0, 1)), 4)
        self.assertEqual(g_with(HALF_ROUND, (0, 2), (0, 5)), 3)
        self.assertEqual(g_with(HALF_ROUND, (0, 0), (0, 2)), 1)
        self.assertEqual(g_with(THREE_LOTS, (0, 1), (2, 3)), 2)
        self.assertEqual(g_with(THREE_LOTS, (3, 1), (4, 2)), 3)
        self.assertEqual(g_with(THREE_LOTS, (4, 1), (0, 2)), 1)
        self.assertEqual(g_with(THREE_LOTS, (0, 1), (1, 6)), 4)
        self.assertEqual(g_with(THREE_LOTS, (0, 1), (1, 4)), 2)

    def test_just_as_it_is_then(self):
        for machine in some_machines():
            for one, other in free_pairs(machine)[::7]:
                told = g_with(machine, other, one)
                self.assertEqual(told, g_with(machine, one, other))
                if len(machine[1]) < 8:
                    self.assertEqual(told, g_of(put_on(machine, one, other), one[0]))

    def test_of_eight_touches(self):
        for machine in (MOST_CELLS_ALONE, MOST_WHEELS_ALL, EIGHT):
            for one, other in free_pairs(machine)[::3]:
                self.assertEqual(g_with(machine, one, other), plain_g(joined(machine, one, other), one[0]))


class Idle(WheelTest):
    def test_by_hand(self):
        self.assertEqual(idle_pairs(HALF_ROUND), [((0, 0), (0, 3)), ((0, 2), (0, 5))])
        self.assertEqual(idle_pairs(LONELY), [])
        self.assertEqual(idle_pairs(TWO_WHEELS), [((0, 1), (1, 1)), ((0, 1), (1, 2)), ((1, 1), (1, 2))])
        self.assertEqual(idle_pairs(ALL_TAKEN), [])
        self.assertIs(is_idle(HALF_ROUND, (0, 5), (0, 2)), True)
        self.assertIs(is_idle(HALF_ROUND, (0, 0), (0, 2)), False)
        self.assertIs(is_idle(THREE_LOTS, (0, 1), (2, 3)), False)
        # Alike by their numbers, but of two lots.
        self.assertIs(is_idle(((1, 1), ()), (0, 0), (1, 0)), False)
        self.assertIs(is_idle(((2, 2), ()), (0, 1), (1, 1)), False)

    def test_just_where_lots_and_classes_stay(self):
        for machine in some_machines():
            told = idle_pairs(machine)
            self.assertIs(type(told), list)
            self.assertEqual(told, sorted(told))
            for one, other in free_pairs(machine)[::5]:
                idle = is_idle(machine, one, other)
                self.assertIs(is_idle(machine, other, one), idle)
                self.assertEqual((one, other) in told, idle)
                self.assertEqual(idle, other[0] in lot_of(machine, one[0]) and miss(machine, one, other) == 0)
                if len(machine[1]) < 8:
                    then = put_on(machine, one, other)
                    self.assertEqual(idle, lots(then) == lots(machine) and classes(then) == classes(machine))

    def test_of_eight_touches(self):
        for machine in (MOST_CELLS_ALONE, MOST_WHEELS_ALL, EIGHT):
            groups = plain_classes(machine)
            wanted = [pair for pair in free_pairs(machine) if any(set(pair) <= members for members in groups)]
            self.assertEqual(idle_pairs(machine), wanted)
            for one, other in free_pairs(machine):
                self.assertIs(is_idle(machine, one, other), (one, other) in wanted)

    def test_all_pairs_of_it_are_free(self):
        for machine in some_machines():
            self.assertTrue(set(idle_pairs(machine)) <= set(free_pairs(machine)))

    def test_it_leaves_what_is_left_in_the_end(self):
        chance = random.Random(252)
        for machine in some_machines():
            if len(machine[1]) < 8:
                for one, other in idle_pairs(machine)[:2]:
                    load = random_load(machine, chance)
                    self.assertEqual(evened(put_on(machine, one, other), load), evened(machine, load))

    def test_it_stays_idle_whatever_is_put_on_beside_it(self):
        chance = random.Random(253)
        for machine in some_machines():
            pairs = idle_pairs(machine)
            if len(machine[1]) < 8 and pairs:
                one, other = chance.choice(pairs)
                beside = [pair for pair in free_pairs(machine) if not set(pair) & {one, other}]
                for pair in beside[:3]:
                    self.assertIs(is_idle(put_on(machine, *pair), one, other), True)


class HowManyClasses(WheelTest):
    def test_by_hand(self):
        told = [how_many_classes(machine) for machine in (ONE_CELL, LONELY, HALF_ROUND, TWO_WHEELS, SEVERAL_LOTS)]
        self.assertEqual(told, [1, 5, 3, 1, 9])
        self.assertEqual(how_many_classes(THREE_LOTS), 13)
        self.assertEqual(how_many_classes(((2,) * 15, ())), 30)

    def test_all_told(self):
        for machine in some_machines():
            self.assertEqual(how_many_classes(machine), len(classes(machine)))
            for touch in range(len(machine[1])):
                self.assertGreaterEqual(how_many_classes(lifted(machine, touch)), how_many_classes(machine))


class BestPairs(WheelTest):
    def test_by_hand(self):
        self.assertEqual(best_pairs(((1, 1), ())), (1, (((0, 0), (1, 0)),)))
        # Of six classes any odd miss but three leaves one, three leaves three, an even one two.
        told = tuple(((0, p), (0, q)) for p in range(6) for q in range(p + 1, 6) if (q - p) in (1, 5))
        self.assertEqual(best_pairs(((6,), ())), (1, told))
        self.assertEqual(best_pairs(TWO_WHEELS), (1, (((0, 1), (1, 1)), ((0, 1), (1, 2)), ((1, 1), (1, 2)))))
        many, pairs = best_pairs(THREE_LOTS)
        # Of 4, 6 and 3: 13; 4 with 6 leaves 5, 4 with 3 leaves 7, 6 with 3 leaves 7.
        self.assertEqual(many, 5)
        self.assertTrue(all({pair[0][0], pair[1][0]} & {0, 1} and {pair[0][0], pair[1][0]} & {2, 3} for pair in pairs))
        self.assertEqual(len(pairs), 10 * 10)

    def test_never(self):
        for machine in (ONE_CELL, ALL_TAKEN, ONE_FREE, ((1, 2), (((0, 0), (1, 1)),))):
            self.assert_text(Never, best_pairs, machine)

    def test_the_fewest_of_all(self):
        for machine in some_machines()[::3]:
            pairs = free_pairs(machine)
            if len(pairs) == 0:
                self.assert_text(Never, best_pairs, machine)
                continue
            told = best_pairs(machine)
            self.assertEqual([type(told), type(told[0]), type(told[1])], [tuple, int, tuple])
            if len(machine[1]) < 8:
                left = {pair: how_many_classes(put_on(machine, *pair)) for pair in pairs}
                fewest = min(left.values())
                self.assertEqual(told, (fewest, tuple(pair for pair in pairs if left[pair] == fewest)))

    def test_of_eight_touches(self):
        sixteen = ((1,) * 14 + (8, 8), tuple(((14, p), (15, p)) for p in range(8)))
        for machine in (MOST_CELLS_ALONE, MOST_WHEELS_ALL, EIGHT, sixteen):
            pairs = free_pairs(machine)
            some = pairs[::max(1, len(pairs) // 25)]
            left = {pair: len(plain_classes(joined(machine, *pair))) for pair in some}
            many, told = best_pairs(machine)
            self.assertEqual([left[pair] == many for pair in some], [pair in told for pair in some])
            self.assertGreaterEqual(min(left.values()), many)

    def test_in_whatever_order(self):
        chance = random.Random(254)
        for machine in some_machines()[::2]:
            free = free_of(machine)
            chance.shuffle(free)
            pairs = [(free[2 * at], free[2 * at + 1]) for at in range(min(3, 8 - len(machine[1]), len(free) // 2))]
            one = other = machine
            for pair in pairs:
                one = put_on(one, *pair)
            for pair in reversed(pairs):
                other = put_on(other, *pair)
            self.assertEqual(one, other)


class Witness(WheelTest):
    def assert_witness(self, machine, one, other):
        told = witness(machine, one, other)
        then = put_on(machine, one, other)
        self.assertTrue(is_closed(then, told))
        self.assertIn(told[0][0], lot_of(machine, one[0]))
        self.assertNotEqual(length(then, told) % g_of(machine, one[0]), 0)

    def test_of_each_pair_of_one_lot(self):
        for machine in some_machines() + [THREE_LOTS, NEIGHBOURS]:
            pairs = free_pairs(machine)
            for one, other in pairs[::max(1, len(pairs) // 9)]:
                if len(machine[1]) == 8:
                    self.assert_text(TooGreat, witness, machine, one, other)
                elif other[0] not in lot_of(machine, one[0]):
                    self.assert_text(OutOfPlace, witness, machine, one, other)
                    self.assert_text(OutOfPlace, witness, machine, other, one)
                elif is_idle(machine, one, other):
                    self.assert_text(Never, witness, machine, one, other)
                else:
                    self.assert_witness(machine, one, other)
                    self.assert_witness(machine, other, one)

    def test_of_a_lone_wheel(self):
        for other in range(1, 30):
            self.assert_witness(((30,), ()), (0, 0), (0, other))

    def test_of_seven_touches(self):
        seven = ((30,), tuple(((0, p), (0, p + 15)) for p in range(7)))
        for other in range(8, 15):
            self.assert_witness(seven, (0, 7), (0, other))
        self.assert_text(Never, witness, seven, (0, 7), (0, 22))
        for machine in (CHAIN, UNEVEN_ROUND):
            for one, other in free_pairs(machine)[::9]:
                if not is_idle(machine, one, other):
                    self.assert_witness(machine, one, other)


class NoMachine(WheelTest):
    def test_ahead_of_all_else(self):
        calls = ((free_spots, 0), (put_on, 2), (lifted, 1), (g_with, 2), (is_idle, 2), (idle_pairs, 0),
                 (how_many_classes, 0), (best_pairs, 0), (witness, 2))
        for call, many in calls:
            self.assert_no_machine_ahead(call, *[None] * many)

    def test_by_names(self):
        self.assertEqual(free_spots(machine=ONE_FREE), ((0, 2),))
        self.assertEqual(lifted(machine=put_on(machine=LONELY, spot=(0, 1), other=(0, 0)), touch=0), LONELY)
        self.assertEqual(g_with(machine=LONELY, spot=(0, 1), other=(0, 0)), 1)
        self.assertIs(is_idle(machine=LONELY, spot=(0, 1), other=(0, 0)), False)
        self.assertEqual(idle_pairs(machine=LONELY), [])
        self.assertEqual(how_many_classes(machine=LONELY), 5)
        self.assertEqual(best_pairs(machine=LONELY)[0], 1)
        self.assertTrue(witness(machine=LONELY, spot=(0, 1), other=(0, 0)))

    def test_told_again(self):
        for machine in MACHINES + GREAT:
            for call in (free_spots, idle_pairs, how_many_classes):
                self.assert_told_again(call, machine)
            for one, other in free_pairs(machine)[:2]:
                self.assert_told_again(best_pairs, machine)
                self.assert_told_again(g_with, machine, one, other)
                self.assert_told_again(is_idle, machine, one, other)
                if len(machine[1]) < 8:
                    self.assert_told_again(put_on, machine, one, other)
            if machine[1]:
                self.assert_told_again(lifted, machine, 0)
        self.assert_told_again(witness, LONELY, (0, 0), (0, 2))
        self.assertLessEqual(len(free_spots(EIGHT)), cells(EIGHT))
