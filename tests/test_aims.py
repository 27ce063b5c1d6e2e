"""What has to be GIVEN, at one SPOT or at many, so that a TOUCH READS a told FRACTION."""

import random
from fractions import Fraction

from evenwheels.aims import aim, least_aim
from evenwheels.errors import BadLoad, BadSpot, Never, NoTouch, OutOfPlace
from evenwheels.fractions import is_fraction
from evenwheels.loads import added, behind, empty, is_load, one_at, readings, scaled, squares
from evenwheels.machines import spots
from evenwheels.windows import row_of
from tests.support import (
    DEEP_TUPLE, GREAT, HALF_ROUND, LONELY, MACHINES, MOST_CELLS_ALONE, TWICE, TWO_WHEELS, UNEVEN_ROUND, Same,
    WheelTest, flat_of, fraction_rows, odd_things, pair_of, plain_rows, random_load, some_machines, whole_load,
)

NO_BEATS = [-1, 301, 10 ** 500, True, False, 1.0, "1", None, (1,), [1]]
NO_FRACTIONS = [1, (1,), (1, 2, 3), (2, 4), (0, 2), (1, 0), (1, -2), (True, 1), (1, True), [1, 2], (1.0, 1), "12", None,
                DEEP_TUPLE, Same()]
NO_SPOTS = [(0, 4), (2, 0), (-1, 0), [0, 0], (False, 0), (0, True), (0, 0, 0), (0,), None, "0", Same()]
NO_TOUCHES = [2, -1, (0,), None, "0", True, 0.0, 10 ** 500]


def some_reading(chance):
    return pair_of(Fraction(chance.randint(-9, 9), chance.randint(1, 9)))


def read_then(machine, load, touch, beats):
    return readings(machine, load, beats + 1)[beats][touch]


def touching(every):
    return [machine for machine in some_machines() if machine[1]][::every]


class Aim(WheelTest):
    def test_by_hand(self):
        load = whole_load([1, 2], [5, 6, 7])
        # 3 is read now, half of what is given here more.
        self.assertEqual(aim(TWO_WHEELS, load, 0, 0, (0, 0), (5, 1)), (4, 1))
        self.assertEqual(aim(TWO_WHEELS, load, 0, 0, (1, 0), (5, 2)), (-1, 1))
        self.assertEqual(aim(TWO_WHEELS, load, 0, 0, (1, 0), (3, 1)), (0, 1))
        # At beat 2 5 is read, of which a half of what stands at (1, 2) and a fourth of what is at the touch now.
        self.assertEqual(aim(TWO_WHEELS, load, 0, 2, (1, 2), (6, 1)), (2, 1))
        self.assertEqual(aim(TWO_WHEELS, load, 0, 2, (0, 0), (6, 1)), (4, 1))

    def test_never(self):
        load = whole_load([1, 2], [5, 6, 7])
        for spot in ((0, 1), (1, 1), (1, 2)):
            self.assert_text(Never, aim, TWO_WHEELS, load, 0, 0, spot, (4, 1))
            # If nothing lacks, too.
            self.assert_text(Never, aim, TWO_WHEELS, load, 0, 0, spot, (3, 1))
        self.assert_text(Never, aim, TWICE, empty(TWICE), 0, 0, (0, 2), (0, 1))
        self.assert_text(Never, aim, HALF_ROUND, empty(HALF_ROUND), 0, 300, (0, 0), (1, 1))

    def test_it_is_read_then(self):
        chance = random.Random(350)
        never = 0
        for machine in touching(1):
            load = random_load(machine, chance)
            touch, beats = chance.randrange(len(machine[1])), chance.choice([0, 1, 2, 5, 9])
            for spot in spots(machine)[::4]:
                reading = some_reading(chance)
                if row_of(machine, touch, beats)[spot[0]][spot[1]] == (0, 1):
                    self.assert_text(Never, aim, machine, load, touch, beats, spot, reading)
                    never += 1
                    continue
                by = aim(machine, load, touch, beats, spot, reading)
                self.assertTrue(is_fraction(by))
                given = added(machine, load, scaled(machine, one_at(machine, spot), by))
                self.assertEqual(read_then(machine, given, touch, beats), reading)
        self.assertGreater(never, 20)

    def test_never_just_where_one_there_reads_as_nought(self):
        for machine in touching(6):
            for touch in range(len(machine[1])):
                row = plain_rows(machine, (touch,), 4)[3]
                for spot, worth in zip(spots(machine), row):
                    if worth == 0:
                        self.assert_text(Never, aim, machine, empty(machine), touch, 3, spot, (0, 1))
                    else:
                        told = aim(machine, empty(machine), touch, 3, spot, (1, 1))
                        self.assertEqual(told, pair_of(1 / worth))

    def test_the_last_beat(self):
        chance = random.Random(351)
        for machine in GREAT:
            load = random_load(machine, chance)
            row = row_of(machine, 0, 300)
            spot = next(spot for spot in spots(machine) if row[spot[0]][spot[1]] != (0, 1))
            by = aim(machine, load, 0, 300, spot, (3, 7))
            given = added(machine, load, scaled(machine, one_at(machine, spot), by))
            self.assertEqual(readings(machine, behind(machine, given, 300), 1)[0][0], (3, 7))


class LeastAim(WheelTest):
    def test_by_hand(self):
        load = whole_load([1, 2], [5, 6, 7])
        self.assertEqual(least_aim(TWO_WHEELS, load, 0, 0, (5, 1)), whole_load([2, 0], [2, 0, 0]))
        self.assertEqual(least_aim(TWO_WHEELS, load, 0, 0, (3, 1)), empty(TWO_WHEELS))
        # The row at beat 2 is a fourth, a fourth and a half: of squares of three eighths.
        third = Fraction(1, 3)
        self.assertEqual(least_aim(TWO_WHEELS, load, 0, 2, (11, 2)), fraction_rows([[third, 0], [third, 0, 2 * third]]))

    def test_it_is_read_then_and_the_least(self):
        chance = random.Random(352)
        for machine in touching(1):
            load, reading = random_load(machine, chance), some_reading(chance)
            touch, beats = chance.randrange(len(machine[1])), chance.choice([0, 1, 2, 5, 9])
            told = least_aim(machine, load, touch, beats, reading)
            self.assertTrue(is_load(machine, told))
            self.assertEqual(read_then(machine, added(machine, load, told), touch, beats), reading)
            # Any other one that does so is it and one that is read as nought then, by more squares.
            for spot in spots(machine)[::5]:
                row = row_of(machine, touch, beats)
                if row[spot[0]][spot[1]] != (0, 1):
                    by = aim(machine, load, touch, beats, spot, reading)
                    mine = sum(worth * worth for worth in flat_of(told))
                    self.assertLessEqual(mine, Fraction(*by) ** 2)

    def test_it_is_the_row_so_many_times(self):
        chance = random.Random(353)
        for machine in touching(3):
            touch, beats = chance.randrange(len(machine[1])), chance.randint(0, 8)
            row = row_of(machine, touch, beats)
            told = least_aim(machine, empty(machine), touch, beats, (1, 1))
            top, bottom = squares(machine, row)
            self.assertEqual(told, scaled(machine, row, (bottom, top)))

    def test_the_greatest_machines(self):
        chance = random.Random(354)
        for machine in GREAT:
            load = random_load(machine, chance)
            told = least_aim(machine, load, 0, 30, (-5, 2))
            self.assertEqual(read_then(machine, added(machine, load, told), 0, 30), (-5, 2))
            self.assertTrue(is_load(machine, least_aim(machine, load, 0, 300, (-5, 2))))


class Refused(WheelTest):
    def test_in_their_order(self):
        load = empty(TWICE)
        for call, more in ((aim, (None, None)), (least_aim, (None,))):
            for thing in [empty(TWO_WHEELS)] + odd_things():
                self.assert_place(BadLoad, None, call, TWICE, thing, None, None, *more)
            self.assert_place(BadLoad, (0, 1), call, TWO_WHEELS, (((0, 1), (0, 2)), (None,) * 3), 9, 301, *more)
            for thing in NO_TOUCHES + odd_things():
                self.assert_text(NoTouch, call, TWICE, load, thing, None, *more)
            self.assert_text(NoTouch, call, LONELY, empty(LONELY), 0, 301, *more)
            for thing in NO_BEATS + odd_things():
                self.assert_text(OutOfPlace, call, TWICE, load, 0, thing, *more)
        for thing in NO_SPOTS + odd_things():
            self.assert_place(BadSpot, None, aim, TWICE, load, 0, 0, thing, None)
        for thing in NO_FRACTIONS + odd_things():
            # Ahead of Never, too.
            self.assert_text(OutOfPlace, aim, TWICE, load, 0, 0, (0, 1), thing)
            self.assert_text(OutOfPlace, aim, TWICE, load, 0, 0, (0, 0), thing)
            self.assert_text(OutOfPlace, least_aim, TWICE, load, 0, 0, thing)

    def test_no_machine_ahead_of_all_else(self):
        for call, many in ((aim, 5), (least_aim, 4)):
            self.assert_no_machine_ahead(call, *[None] * many)

    def test_by_names_and_told_again(self):
        load = whole_load([1, 2], [5, 6, 7])
        told = aim(machine=TWO_WHEELS, load=load, touch=0, beats=0, spot=(0, 0), reading=(5, 1))
        self.assertEqual(told, (4, 1))
        told = least_aim(machine=TWO_WHEELS, load=load, touch=0, beats=0, reading=(5, 1))
        self.assertEqual(told, whole_load([2, 0], [2, 0, 0]))
        chance = random.Random(355)
        for machine in MACHINES + [MOST_CELLS_ALONE, UNEVEN_ROUND]:
            if machine[1]:
                load = random_load(machine, chance)
                self.assert_told_again(aim, machine, load, 0, 0, machine[1][0][0], (1, 3))
                self.assert_told_again(least_aim, machine, load, 0, 3, (1, 3))
