"""THE RULE: D of a LOT by ways and by places, what is left over, who dies, and what follows it."""

import random
from fractions import Fraction
from itertools import combinations

from evenwheels.closed import simple_ways
from evenwheels.errors import BadMachine, BadReadings, BadRule, NoTouch, OutOfPlace
from evenwheels.loads import one_at, readings
from evenwheels.machines import cells, spots
from evenwheels.polynomials import degree_of, is_polynomial, one_less, out_row, product_of
from evenwheels.rules import (
    follows, how_many_die, left_over, rule_by_places, rule_by_ways, rule_of, whole_rule,
)
from evenwheels.shifts import g_of
from evenwheels.web import lots, web
from tests.support import (
    BACKWARD, CHAIN, DEEP_LIST, DEEP_TUPLE, HALF_ROUND, LONELY, MACHINES, MOST_CELLS_ALONE, MOST_WHEELS_ALL, NEIGHBOURS,
    ONE_CELL, ONE_CELL_TOUCHES, SEVERAL_LOTS, TWICE, TWO_WHEELS, UNEVEN_ROUND, Same, WheelTest, odd_things, pair_of, plain_beat,
    plain_rank, random_load, some_machines, within_itself,
)

ROUND = ((6,), (((0, 0), (0, 1)), ((0, 2), (0, 3)), ((0, 4), (0, 5))))
NUMBERS = [Fraction(1, 2), Fraction(-2, 3), Fraction(3), Fraction(-1), Fraction(7, 5)]
OF_A_WHEEL = (rule_by_ways, rule_by_places, left_over)


def poly(*worths):
    return tuple(pair_of(Fraction(worth)) for worth in worths)


def worth_of(one, number):
    return sum((Fraction(*worth) * number ** at for at, worth in enumerate(one)), Fraction(0))


def determinant(rows):
    """By plain elimination."""
    rows, found = [list(row) for row in rows], Fraction(1)
    for at in range(len(rows)):
        swap = next((number for number in range(at, len(rows)) if rows[number][at]), None)
        if swap is None:
            return Fraction(0)
        if swap != at:
            rows[at], rows[swap], found = rows[swap], rows[at], -found
        found *= rows[at][at]
        for number in range(at + 1, len(rows)):
            by = rows[number][at] / rows[at][at]
            if by:
                rows[number] = [x - by * y for x, y in zip(rows[number], rows[at])]
    return found


def plain_map(machine):
    """For each spot what one put there becomes behind a beat."""
    places = spots(machine)
    return {spot: plain_beat(machine, {one: Fraction(one == spot) for one in places}) for spot in places}


def plain_by_places(machine, lot, number):
    """The determinant of one less so many times BEAT, of a lot's places."""
    goes, places = plain_map(machine), [spot for spot in spots(machine) if spot[0] in lot]
    return determinant([[(one == other) - number * goes[other][one] for other in places] for one in places])


def plain_by_web(machine, lot, number):
    """The determinant of what has 1 at each touch by itself, less a half by Y to its gap for each way."""
    touches = [at for at, pair in enumerate(machine[1]) if pair[0][0] in lot]
    rows = {(one, other): Fraction(one == other) for one in touches for other in touches}
    for begin, _, goal, gap in web(machine):
        if begin in touches:
            rows[goal, begin] -= number ** gap / 2
    return determinant([[rows[one, other] for other in touches] for one in touches])


def plain_by_sets(machine, lot):
    """The promise's own words: all sets of simple closed ways, no two through one touch."""
    ways = {way[1]: way for way in web(machine)}
    simple = simple_ways(machine, lot[0])
    found = [Fraction(0)] * 31
    for many in range(len(machine[1]) + 1):
        for chosen in combinations(simple, many):
            gone = [ways[spot][0] for way in chosen for spot in way]
            if len(gone) == len(set(gone)):
                gaps = sum(ways[spot][3] for way in chosen for spot in way)
                found[gaps] += Fraction((-1) ** many, 2 ** len(gone))
    while not found[-1]:
        found.pop()
    return poly(*found)


class Rules(WheelTest):
    def both(self, machine, wheel, *worths):
        self.assertEqual(rule_by_ways(machine, wheel), poly(*worths))
        self.assertEqual(rule_by_places(machine, wheel), poly(*worths))

    def test_by_hand(self):
        half = Fraction(1, 2)
        self.both(ONE_CELL, 0, 1, -1)
        self.both(LONELY, 0, 1, 0, 0, 0, 0, -1)
        self.both(HALF_ROUND, 0, 1, 0, 0, -1)
        self.both(UNEVEN_ROUND, 0, 1, 0, -half, 0, 0, -half)
        self.both(TWO_WHEELS, 0, 1, 0, -half, -half)
        self.both(TWO_WHEELS, 1, 1, 0, -half, -half)
        self.both(ONE_CELL_TOUCHES, 0, 1, -half, 0, 0, -half)
        self.both(SEVERAL_LOTS, 3, 1, 0, -1)
        self.both(SEVERAL_LOTS, 0, 1, 0, 0, -half, 0, 0, -half)
        self.both(((3, 3), (((0, 0), (1, 2)),)), 1, 1, 0, 0, -1)

    def test_two_touches_by_hand(self):
        # Through both touches lead ways of 4, 4, 6 and 6 beats, a quarter each.
        self.both(TWICE, 0, 1, 0, 0, 0, Fraction(-1, 2), 0, Fraction(-1, 2))
        # Two lots: each touch leads to itself by 1 and by 2.
        machine = ((3, 3), (((0, 0), (0, 1)), ((1, 0), (1, 1))))
        self.both(machine, 0, 1, Fraction(-1, 2), Fraction(-1, 2))

    def test_three_touches_by_hand(self):
        # Each touch leads to itself by 1 and on by 1: (1 - Y / 2) ** 3 - (Y / 2) ** 3.
        self.both(ROUND, 0, 1, Fraction(-3, 2), Fraction(3, 4), Fraction(-1, 4))

    def test_the_greatest_degrees_by_hand(self):
        half = Fraction(1, 2)
        self.both(((30,), ()), 0, 1, *[0] * 29, -1)
        self.both(((30,), (((0, 0), (0, 1)),)), 0, 1, -half, *[0] * 27, -half)
        self.both(((29, 1), (((0, 5), (1, 0)),)), 1, 1, -half, *[0] * 27, -half)

    def test_both_tell_the_same_of_each_lot(self):
        for machine in some_machines():
            for lot in lots(machine):
                told = rule_by_ways(machine, lot[0])
                for wheel in lot:
                    self.assertEqual(rule_by_ways(machine, wheel), told)
                    self.assertEqual(rule_by_places(machine, wheel), told)
                self.assertTrue(is_polynomial(told))
                self.assertEqual(told[0], (1, 1))
                self.assertLessEqual(degree_of(told), sum(machine[0][wheel] for wheel in lot))

    def test_by_places_as_a_determinant(self):
        for machine in MACHINES + some_machines()[-12:]:
            for lot in lots(machine):
                told = rule_by_places(machine, lot[0])
                for number in NUMBERS[:2]:
                    self.assertEqual(worth_of(told, number), plain_by_places(machine, lot, number))

    def test_by_ways_as_a_determinant(self):
        for machine in some_machines():
            for lot in lots(machine):
                if any(pair[0][0] in lot for pair in machine[1]):
                    told = rule_by_ways(machine, lot[0])
                    for number in NUMBERS:
                        self.assertEqual(worth_of(told, number), plain_by_web(machine, lot, number))

    def test_by_ways_by_its_own_words(self):
        for machine in some_machines():
            for lot in lots(machine):
                if 0 < sum(pair[0][0] in lot for pair in machine[1]) < 5:
                    self.assertEqual(rule_by_ways(machine, lot[0]), plain_by_sets(machine, lot))

    def test_wheels_that_are_none(self):
        for call in OF_A_WHEEL:
            for thing in odd_things() + [2, -1, (0,), 10 ** 500]:
                self.assert_text(OutOfPlace, call, TWO_WHEELS, thing)


class LeftOver(WheelTest):
    def test_by_hand(self):
        self.assertEqual(left_over(ONE_CELL, 0), poly(1))
        self.assertEqual(left_over(LONELY, 0), poly(1))
        self.assertEqual(left_over(HALF_ROUND, 0), poly(1))
        self.assertEqual(left_over(TWO_WHEELS, 1), poly(1, 1, Fraction(1, 2)))
        self.assertEqual(left_over(TWICE, 0), poly(1, 0, 1, 0, Fraction(1, 2)))
        self.assertEqual(left_over(SEVERAL_LOTS, 2), poly(1, 0, 0, Fraction(1, 2)))
        self.assertEqual(left_over(ROUND, 0), poly(1, Fraction(-1, 2), Fraction(1, 4)))

    def test_times_one_less_it_is_d(self):
        for machine in some_machines():
            for lot in lots(machine):
                told = left_over(machine, lot[-1])
                again = product_of(told, one_less(g_of(machine, lot[0])))
                self.assertEqual(again, rule_by_ways(machine, lot[0]))

    def test_no_root_of_length_1_or_less(self):
        for machine in some_machines():
            for lot in lots(machine):
                told = left_over(machine, lot[0])
                row = out_row(told)
                self.assertEqual(len(row), degree_of(told))
                self.assertTrue(all(-1 < Fraction(*worth) < 1 for worth in row))
                self.assertFalse(-1 < Fraction(*out_row(rule_by_ways(machine, lot[0]))[-1]) < 1)


class OfTheMachine(WheelTest):
    def test_rule_of(self):
        half = Fraction(1, 2)
        self.assertEqual(rule_of(TWO_WHEELS, 0), poly(1, 0, -half, -half))
        self.assertEqual(rule_of(SEVERAL_LOTS, 0), poly(1, 0, 0, -half, 0, 0, -half))
        self.assertEqual(rule_of(SEVERAL_LOTS, 1), rule_by_places(SEVERAL_LOTS, 4))
        self.assertEqual(rule_of(SEVERAL_LOTS, 2), rule_by_places(SEVERAL_LOTS, 1))
        for machine in some_machines():
            for touch, (one, other) in enumerate(machine[1]):
                self.assertEqual(rule_of(machine, touch), rule_by_ways(machine, one[0]))
                self.assertEqual(rule_of(machine, touch), rule_by_ways(machine, other[0]))

    def test_rule_of_no_touch(self):
        for thing in odd_things() + [1, -1, (0,), 10 ** 500]:
            self.assert_text(NoTouch, rule_of, TWO_WHEELS, thing)
        self.assert_text(NoTouch, rule_of, LONELY, 0)
        self.assert_text(NoTouch, rule_of, SEVERAL_LOTS, 3)

    def test_whole_rule(self):
        self.assertEqual(whole_rule(ONE_CELL), poly(1, -1))
        self.assertEqual(whole_rule(((1, 2), ())), poly(1, -1, -1, 1))
        self.assertEqual(whole_rule(TWO_WHEELS), poly(1, 0, Fraction(-1, 2), Fraction(-1, 2)))
        for machine in some_machines():
            found = poly(1)
            for lot in lots(machine):
                found = product_of(found, rule_by_places(machine, lot[0]))
            self.assertEqual(whole_rule(machine), found)

    def test_whole_rule_as_a_determinant(self):
        for machine in (TWICE, SEVERAL_LOTS, ROUND, UNEVEN_ROUND, BACKWARD):
            for number in NUMBERS[:3]:
                told = plain_by_places(machine, range(len(machine[0])), number)
                self.assertEqual(worth_of(whole_rule(machine), number), told)

    def test_how_many_die(self):
        self.assertEqual(how_many_die(ONE_CELL), 0)
        self.assertEqual(how_many_die(LONELY), 0)
        self.assertEqual(how_many_die(HALF_ROUND), 3)
        self.assertEqual(how_many_die(TWO_WHEELS), 2)
        self.assertEqual(how_many_die(TWICE), 4)
        self.assertEqual(how_many_die(ROUND), 3)
        self.assertEqual(how_many_die(SEVERAL_LOTS), 23 - degree_of(whole_rule(SEVERAL_LOTS)))

    def test_as_many_as_come_to_noughts(self):
        for machine in MACHINES + some_machines()[-15:]:
            rows = []
            for spot in spots(machine):
                holds = {one: Fraction(one == spot) for one in spots(machine)}
                for _ in range(how_many_die(machine)):
                    holds = plain_beat(machine, holds)
                rows.append([holds[one] for one in spots(machine)])
            self.assertEqual(plain_rank(rows), cells(machine) - how_many_die(machine))


class Follows(WheelTest):
    def test_by_hand(self):
        double = poly(1, -2)
        self.assertIs(follows(double, poly(1, 2, 4, 8)), True)
        self.assertIs(follows(double, list(poly(1, 2, 4, 8))), True)
        self.assertIs(follows(double, poly(1, 2, 4, 9)), False)
        self.assertIs(follows(double, poly(1, 3, 6, 12)), False)
        self.assertIs(follows(double, poly(0, 0, 0)), True)
        self.assertIs(follows(double, poly(0, 0, 1)), False)
        sums = poly(1, -1, -1)
        self.assertIs(follows(sums, poly(1, 1, 2, 3, 5, 8)), True)
        self.assertIs(follows(sums, poly(7, -4, 3, -1, 2, 1)), True)
        self.assertIs(follows(sums, poly(1, 1, 2, 3, 5, 9)), False)
        self.assertIs(follows(sums, poly(1, 1, 3, 4)), False)
        self.assertIs(follows(poly(-3, 3, 3), [(1, 3), (1, 3), (2, 3)]), True)
        self.assertIs(follows(poly(2, -1), ((1, 1), (1, 2), (1, 4))), True)
        self.assertIs(follows(poly(2, -1), ((4, 1), (2, 1), (-1, 1))), False)

    def test_the_earlier_ones_stand_by_higher_powers(self):
        self.assertIs(follows(poly(1, 0, -2), poly(3, 5, 6, 10, 12)), True)
        self.assertIs(follows(poly(1, -3, 2), poly(0, 1, 3, 7, 15)), True)
        self.assertIs(follows(poly(2, -3, 1), poly(0, 1, 3, 7, 15)), False)

    def test_too_few(self):
        for things in ((), [], poly(5), poly(5, 1)):
            self.assertIs(follows(poly(1, -1, -1), things), True)
        self.assertIs(follows(poly(1, -1, -1), poly(5, 1, 1)), False)
        self.assertIs(follows(one_less(30), poly(*range(30))), True)
        self.assertIs(follows(one_less(30), poly(*range(31))), False)
        self.assertIs(follows(one_less(30), poly(*range(30), 0)), True)

    def test_of_one_number_alone(self):
        self.assertIs(follows(poly(3), ()), True)
        self.assertIs(follows(poly(3), poly(0, 0)), True)
        self.assertIs(follows(poly(3), poly(0, 0, 1)), False)
        self.assertIs(follows(poly(3), poly(1, 0, 0)), False)

    def test_readings_do(self):
        chance = random.Random(80)
        for machine in some_machines():
            told = readings(machine, random_load(machine, chance), 75)
            for lot in lots(machine):
                rule = rule_by_ways(machine, lot[0])
                late = sum(machine[0][wheel] for wheel in lot) - degree_of(rule)
                for touch, (one, _) in enumerate(machine[1]):
                    if one[0] in lot:
                        row = [reading[touch] for reading in told]
                        self.assertIs(follows(rule, row[late:]), True)
                        self.assertIs(follows(rule, tuple(row[late:])), True)
                        self.assertIs(follows(rule, row[late:-1] + [(10 ** 9 + 7, 3)]), False)

    def test_readings_needn_t_from_the_start(self):
        rule = rule_by_ways(NEIGHBOURS, 0)
        self.assertEqual((rule, 4 - degree_of(rule)), (poly(1, -1), 3))
        row = [reading[0] for reading in readings(NEIGHBOURS, one_at(NEIGHBOURS, (0, 0)), 20)]
        self.assertIs(follows(rule, row), False)
        self.assertIs(follows(rule, row[3:]), True)

    def test_all_numbers_from_the_degree_on(self):
        chance = random.Random(81)
        for _ in range(60):
            degree = chance.randint(0, 5)
            rule = [Fraction(chance.choice([-2, -1, 1, 3]))]
            rule += [Fraction(chance.randint(-3, 3), chance.randint(1, 3)) for _ in range(degree)]
            rule[-1] = rule[-1] or Fraction(1)
            row = [Fraction(chance.randint(-5, 5), chance.randint(1, 4)) for _ in range(degree)]
            for _ in range(6):
                row.append(-sum((by * row[-back] for back, by in enumerate(rule) if back), Fraction(0)) / rule[0])
            self.assertIs(follows(poly(*rule), poly(*row)), True)
            for at in range(degree, len(row)):
                spoilt = row[:at] + [row[at] + 1] + row[at + 1:]
                self.assertIs(follows(poly(*rule), poly(*spoilt)), False)
                self.assertIs(follows(poly(*rule), list(poly(*spoilt[:at + 1]))), False)
                self.assertIs(follows(poly(*rule), list(poly(*spoilt[:at]))), True)

    def bad_rule(self, number, one, things):
        self.assert_refused(BadRule, {"number": number}, follows, one, things)

    def bad_readings(self, number, things):
        self.assert_refused(BadReadings, {"number": number}, follows, poly(1, -2), things)

    def test_bad_rules(self):
        for things in ((), None, poly(1, 2), [None]):
            self.bad_rule(None, [(1, 1)], things)
            self.bad_rule(None, None, things)
            self.bad_rule(0, (), things)
            self.bad_rule(0, poly(0, 1), things)
            self.bad_rule(0, poly(0, 0, 5), things)
            self.bad_rule(0, ((0, 1),), things)
            self.bad_rule(1, ((1, 1), (2, 4)), things)
            self.bad_rule(2, ((1, 1), (2, 1), (0, 1)), things)
            self.bad_rule(1, ((1, 1), True, (0, 1)), things)
        for thing in odd_things():
            if type(thing) is tuple:
                self.bad_rule(0, thing, None)
            else:
                self.bad_rule(None, thing, None)

    def test_bad_readings(self):
        for thing in odd_things() + ["ab", {(1, 1): 1}, range(0), Same()]:
            if type(thing) not in (list, tuple):
                self.bad_readings(None, thing)
        others = [1, (1,), (1, 2, 3), (2, 4), (0, 2), (1, 0), (1, -2), (True, 1), [1, 2], (1.0, 1), "12", DEEP_TUPLE,
                  DEEP_LIST, within_itself(), Same()]
        for thing in others + odd_things():
            self.bad_readings(0, [thing])
            self.bad_readings(0, (thing, None))
            self.bad_readings(2, [(1, 1), (0, 1), thing, thing])
            self.bad_readings(2, ((1, 1), (5, 1), thing))

    def test_what_is_handed_in_stays(self):
        things = [(1, 1), (2, 1), (4, 1)]
        self.assertIs(follows(poly(1, -2), things), True)
        self.assertEqual(things, [(1, 1), (2, 1), (4, 1)])


class NoMachine(WheelTest):
    def test_ahead_of_all_else(self):
        for thing in odd_things() + [((0,), ()), ((2, 3), [])]:
            for call in OF_A_WHEEL + (rule_of,):
                with self.assertRaises(BadMachine):
                    call(thing, None)
            for call in (whole_rule, how_many_die):
                with self.assertRaises(BadMachine):
                    call(thing)
        for call in OF_A_WHEEL + (rule_of,):
            self.assert_place(BadMachine, "counts", call, ((), ()), None)
        for call in (whole_rule, how_many_die):
            self.assert_place(BadMachine, "touches", call, ((1,), []))

    def test_by_names_and_told_again(self):
        for call in OF_A_WHEEL:
            self.assertEqual(call(machine=TWO_WHEELS, wheel=1), call(TWO_WHEELS, 1))
        self.assertEqual(rule_of(machine=TWO_WHEELS, touch=0), rule_by_ways(TWO_WHEELS, 0))
        self.assertEqual(whole_rule(machine=ONE_CELL), poly(1, -1))
        self.assertEqual(how_many_die(machine=ONE_CELL), 0)
        self.assertIs(follows(one=poly(1, -2), things=poly(1, 2)), True)
        for machine in MACHINES + [MOST_CELLS_ALONE, MOST_WHEELS_ALL, CHAIN]:
            for call in OF_A_WHEEL:
                self.assert_told_again(call, machine, 0)
            for call in (whole_rule, how_many_die):
                self.assert_told_again(call, machine)
        self.assert_told_again(rule_of, TWICE, 1)
        self.assert_told_again(follows, poly(1, -2), poly(1, 2))
        self.assert_told_again(follows, poly(1, -2), [(1, 1), (3, 1)])
