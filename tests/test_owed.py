"""OWED, MET, and the first beat at which anything meets unlike."""

import random
from fractions import Fraction

from evenwheels.ends import evened, is_even
from evenwheels.errors import BadLoad, BadMachine
from evenwheels.fractions import is_nought, less, plus
from evenwheels.loads import beat, behind, empty, one_at, squares
from evenwheels.machines import cells, spots
from evenwheels.owed import first_met, met, owed
from evenwheels.shifts import g_of
from evenwheels.web import lots
from tests.support import (
    HALF_ROUND, LONELY, MACHINES, MOST_CELLS_ALONE, ONE_CELL, SEVERAL_LOTS, TWICE, TWO_WHEELS, WheelTest, holds_of,
    odd_things, pair_of, plain_beat, plain_classes, random_load, some_machines, whole_load,
)


def plain_owed(machine, load):
    """Class by class the squared differences of each two of its spots, by how many it has."""
    holds = holds_of(load)
    found = Fraction(0)
    for members in plain_classes(machine):
        each = sum((holds[one] - holds[other]) ** 2 for one in members for other in members if one < other)
        found += Fraction(each) / len(members)
    return pair_of(found)


def plain_met(machine, holds):
    return sum(((holds[one] - holds[other]) ** 2 for one, other in machine[1]), Fraction(0)) / 2


def uneven_lots(machine, load):
    holds = holds_of(load)
    uneven = [members for members in plain_classes(machine) if len({holds[spot] for spot in members}) > 1]
    return [lot for lot in lots(machine) if any(min(members)[0] in lot for members in uneven)]


class Owed(WheelTest):
    def test_by_hand(self):
        self.assertEqual(owed(TWO_WHEELS, whole_load([1, 2], [5, 6, 7])), (134, 5))
        self.assertEqual(owed(HALF_ROUND, whole_load([1, 2, 3, 1, -2, 4])), (17, 2))
        self.assertEqual(owed(ONE_CELL, whole_load([9])), (0, 1))
        self.assertEqual(owed(LONELY, whole_load([1, 2, 3, 4, 5])), (0, 1))
        self.assertEqual(owed(TWO_WHEELS, (((1, 2), (0, 1)), ((0, 1), (0, 1), (-1, 3)))), (16, 45))

    def test_just_as_a_second_telling(self):
        chance = random.Random(50)
        for machine in some_machines():
            load = random_load(machine, chance)
            self.assertEqual(owed(machine, load), plain_owed(machine, load))
            self.assert_fractions((owed(machine, load),))
            self.assertEqual(owed(machine, load), less(squares(machine, load), squares(machine, evened(machine, load))))

    def test_a_beat_takes_off_just_what_met(self):
        chance = random.Random(51)
        for machine in some_machines():
            load = random_load(machine, chance)
            for _ in range(4):
                gone = beat(machine, load)
                self.assertEqual(owed(machine, gone), less(owed(machine, load), met(machine, load)))
                load = gone

    def test_nought_just_of_even_ones(self):
        chance = random.Random(52)
        for machine in some_machines():
            load = random_load(machine, chance)
            self.assertIs(is_nought(owed(machine, load)), is_even(machine, load))
            self.assertEqual(owed(machine, evened(machine, load)), (0, 1))
            self.assertEqual(met(machine, evened(machine, load)), (0, 1))

    def test_all_that_ever_meets_comes_close_to_it(self):
        chance = random.Random(53)
        for machine in (TWO_WHEELS, TWICE, HALF_ROUND, SEVERAL_LOTS):
            load = random_load(machine, chance)
            first, together = owed(machine, load), (0, 1)
            for _ in range(150):
                together = plus(together, met(machine, load))
                load = beat(machine, load)
            self.assertEqual(owed(machine, load), less(first, together))
            self.assertLess(Fraction(*owed(machine, load)), Fraction(1, 10 ** 4))


class Met(WheelTest):
    def test_by_hand(self):
        self.assertEqual(met(TWO_WHEELS, whole_load([1, 2], [5, 6, 7])), (8, 1))
        self.assertEqual(met(TWO_WHEELS, whole_load([6, 2], [5, 6, 7])), (1, 2))
        self.assertEqual(met(HALF_ROUND, whole_load([1, 2, 3, 1, -2, 4])), (8, 1))
        self.assertEqual(met(TWICE, whole_load([1, 0, 5, 0], [0, 3, 0, 8, 0, 0])), (13, 2))
        self.assertEqual(met(ONE_CELL, whole_load([9])), (0, 1))
        self.assertEqual(met(TWO_WHEELS, (((1, 2), (9, 1)), ((-1, 3), (0, 1), (0, 1)))), (25, 72))

    def test_just_as_a_second_telling(self):
        chance = random.Random(54)
        for machine in some_machines():
            load = random_load(machine, chance)
            self.assertEqual(met(machine, load), pair_of(plain_met(machine, holds_of(load))))
            self.assert_fractions((met(machine, load),))
            self.assertEqual(met(machine, load), less(squares(machine, load), squares(machine, beat(machine, load))))


class FirstMet(WheelTest):
    def test_by_hand(self):
        self.assertEqual(first_met(TWO_WHEELS, whole_load([1, 2], [5, 6, 7])), 0)
        self.assertEqual(first_met(TWO_WHEELS, whole_load([5, 2], [5, 6, 7])), 1)
        self.assertEqual(first_met(TWO_WHEELS, whole_load([5, 6], [5, 6, 7])), 2)
        self.assertEqual(first_met(TWO_WHEELS, whole_load([0, 1], [0, 1, 0])), 3)
        self.assertIsNone(first_met(TWO_WHEELS, whole_load([1, 1], [1, 1, 1])))
        self.assertEqual(first_met(HALF_ROUND, whole_load([1, 2, 3, 4, 2, 3])), 2)
        self.assertEqual(first_met(HALF_ROUND, whole_load([1, 2, 3, 1, 2, 4])), 1)
        self.assertIsNone(first_met(HALF_ROUND, whole_load([1, 2, 3, 1, 2, 3])))
        self.assertIsNone(first_met(LONELY, whole_load([1, 2, 3, 4, 5])))
        self.assertIsNone(first_met(ONE_CELL, whole_load([1])))

    def test_of_one_lot_alone(self):
        for wheel, told in ((0, 0), (1, 1)):
            load = one_at(SEVERAL_LOTS, (wheel, 1))
            self.assertEqual(first_met(SEVERAL_LOTS, load), told)
        self.assertIsNone(first_met(SEVERAL_LOTS, one_at(SEVERAL_LOTS, (3, 1))))

    def test_just_as_a_second_telling(self):
        chance = random.Random(55)
        for machine in some_machines():
            starts = [one_at(machine, chance.choice(spots(machine))), random_load(machine, chance), empty(machine)]
            starts.append(evened(machine, starts[1]))
            starts.append(behind(machine, starts[0], 7))
            for load in starts:
                holds, beats = holds_of(load), 0
                while beats < 40 and plain_met(machine, holds) == 0:
                    holds, beats = plain_beat(machine, holds), beats + 1
                told = first_met(machine, load)
                self.assertEqual(told, None if beats == 40 else beats)
                self.assertIs(told is None, is_even(machine, load))

    def test_the_bound(self):
        chance = random.Random(56)
        for machine in some_machines():
            for load in [one_at(machine, spot) for spot in spots(machine)] + [random_load(machine, chance)]:
                uneven = uneven_lots(machine, load)
                told = first_met(machine, load)
                if uneven:
                    least = min(sum(machine[0][w] for w in lot) - g_of(machine, lot[0]) - 1 for lot in uneven)
                    self.assertIn(told, range(least + 1))
                else:
                    self.assertIsNone(told)

    def test_the_bound_is_reached(self):
        # Zigzag down two wheels with one touch: what has to be alike is linked one behind another.
        for counts, bound in (((2, 3), 3), ((3, 4), 5), ((5, 6), 9), ((14, 15), 27)):
            machine = (counts, (((0, 0), (1, 0)),))
            one, other = counts
            self.assertEqual(cells(machine) - 1 - 1, bound)
            row, beside = [0] * one, [0] * other
            known, rest = [], [(0, 0)]
            while rest:
                wheel, place = rest.pop()
                if (wheel, place) in known:
                    continue
                known.append((wheel, place))
                (row, beside)[wheel][place] = 1
                for beats in range(bound):
                    if beats % counts[wheel] == place:
                        rest.append((1 - wheel, beats % counts[1 - wheel]))
            load = whole_load(row, beside)
            self.assertFalse(is_even(machine, load))
            self.assertEqual(first_met(machine, load), bound)


class Refused(WheelTest):
    def test_bad_loads(self):
        for call in (owed, met, first_met):
            self.assert_place(BadLoad, None, call, TWO_WHEELS, whole_load([1, 2], [3, 4]))
            self.assert_place(BadLoad, (1, 1), call, TWO_WHEELS, (((1, 1), (1, 1)), ((1, 1), (2, 4), None)))
            for thing in odd_things():
                self.assert_place(BadLoad, None, call, TWO_WHEELS, thing)

    def test_no_machine_ahead_of_all(self):
        for call in (owed, met, first_met):
            for thing in odd_things() + [((0,), ()), ((2, 3), [])]:
                with self.assertRaises(BadMachine):
                    call(thing, None)
            self.assert_place(BadMachine, "counts", call, ((), ()), None)

    def test_by_names_and_told_again(self):
        load = whole_load([5, 2], [5, 6, 7])
        self.assertEqual(owed(machine=TWO_WHEELS, load=load), (14, 1))
        self.assertEqual(met(machine=TWO_WHEELS, load=load), (0, 1))
        self.assertEqual(first_met(machine=TWO_WHEELS, load=load), 1)
        chance = random.Random(57)
        for machine in MACHINES + [MOST_CELLS_ALONE]:
            for call in (owed, met, first_met):
                self.assert_told_again(call, machine, random_load(machine, chance))
