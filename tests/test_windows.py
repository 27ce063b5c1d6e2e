"""WINDOWS: ROWS, LOOKS, RANK, what is seen, and the SHORTEST rule of a TOUCH."""

import random
from fractions import Fraction
from itertools import combinations

from evenwheels.errors import BadLoad, BadMachine, NoTouch, OutOfPlace
from evenwheels.loads import beat, behind, empty, is_load, one_at, readings
from evenwheels.machines import cells
from evenwheels.mirror import mirror, paired, turned
from evenwheels.polynomials import divided_by, one_less
from evenwheels.rules import follows, rule_of
from evenwheels.shifts import g_of
from evenwheels.windows import looks, need_window, rank, row_of, sees, shortest
from tests.support import (
    CHAIN, DEEP_LIST, DEEP_TUPLE, GREAT, HALF_ROUND, LONELY, MACHINES, MOST_CELLS_ALONE, MOST_WHEELS_ALL, NEIGHBOURS,
    ONE_CELL, ONE_CELL_TOUCHES, SEVERAL_LOTS, TWICE, TWO_WHEELS, UNEVEN_ROUND, Same, WheelTest, flat_of, fraction_rows,
    odd_things, plain_echelon, plain_rank, plain_rows, random_load, some_machines, some_window, whole_load,
    within_itself,
)

NO_WINDOWS = [(), [0], (0, 0), (1, 0), (0, 2), (2,), (-1,), (-1, 0), (True,), (False,), (0, True), (0.0,), ("0",), "0",
              ("0", "1"), (None,), ((0,),), {0: 0}, range(1), 0, 1, None, (0, None), (10 ** 500,), (0, 1, 1), (0, 1, 2),
              DEEP_TUPLE, DEEP_LIST, (within_itself(),), (Same(),), (0, Same())]
NO_LOOK_BEATS = [0, -1, 31, 300, 10 ** 500, True, False, 1.0, "1", None, (1,), [1]]


def touching():
    return [machine for machine in some_machines() if machine[1]]


class NeedWindow(WheelTest):
    def test_windows(self):
        for machine in (TWICE, SEVERAL_LOTS, MOST_CELLS_ALONE):
            many = len(machine[1])
            for window in [(at,) for at in range(many)] + [tuple(range(many)), (0, many - 1)]:
                self.assertIsNone(need_window(machine, window))
        for many in range(1, 9):
            for window in combinations(range(8), many):
                self.assertIsNone(need_window(MOST_CELLS_ALONE, window))

    def test_none(self):
        for thing in NO_WINDOWS + odd_things():
            self.assert_text(NoTouch, need_window, TWICE, thing)
            self.assert_text(NoTouch, looks, TWICE, thing, None, None)
            self.assert_text(NoTouch, looks, TWICE, thing, empty(TWICE), 1)
            self.assert_text(NoTouch, rank, TWICE, thing, None)
            self.assert_text(NoTouch, rank, TWICE, thing, 1)
            self.assert_text(NoTouch, sees, TWICE, thing)

    def test_no_touch_at_all(self):
        for window in ((), (0,), None):
            self.assert_text(NoTouch, need_window, LONELY, window)
            self.assert_text(NoTouch, sees, ONE_CELL, window)


class RowOf(WheelTest):
    def test_by_hand(self):
        half, fourth = Fraction(1, 2), Fraction(1, 4)
        self.assertEqual(row_of(TWO_WHEELS, 0, 0), fraction_rows([[half, 0], [half, 0, 0]]))
        self.assertEqual(row_of(TWO_WHEELS, 0, 1), fraction_rows([[0, half], [0, half, 0]]))
        self.assertEqual(row_of(TWO_WHEELS, 0, 2), fraction_rows([[fourth, 0], [fourth, 0, half]]))
        self.assertEqual(row_of(TWO_WHEELS, 0, 3), fraction_rows([[fourth, fourth], [fourth, fourth, 0]]))
        self.assertEqual(row_of(HALF_ROUND, 0, 0), fraction_rows([[0, half, 0, 0, half, 0]]))
        self.assertEqual(row_of(HALF_ROUND, 0, 1), fraction_rows([[0, 0, half, 0, 0, half]]))
        self.assertEqual(row_of(HALF_ROUND, 0, 2), fraction_rows([[half, 0, 0, half, 0, 0]]))
        self.assertEqual(row_of(HALF_ROUND, 0, 300), row_of(HALF_ROUND, 0, 0))
        self.assertEqual(row_of(TWICE, 1, 0), fraction_rows([[0, 0, half, 0], [0, 0, 0, half, 0, 0]]))

    def test_what_it_makes_paired_is_read(self):
        chance = random.Random(110)
        for machine in touching():
            load = random_load(machine, chance)
            told = readings(machine, load, 12)
            for touch in range(len(machine[1])):
                for at in (0, 1, chance.randint(2, 11)):
                    row = row_of(machine, touch, at)
                    self.assertTrue(is_load(machine, row))
                    self.assertEqual(paired(machine, row, load), told[at][touch])

    def test_just_as_a_second_telling(self):
        for machine in (TWO_WHEELS, TWICE, UNEVEN_ROUND, ONE_CELL_TOUCHES, SEVERAL_LOTS):
            for touch in range(len(machine[1])):
                for at, row in enumerate(plain_rows(machine, (touch,), 9)):
                    self.assertEqual(flat_of(row_of(machine, touch, at)), row)

    def test_by_mirror(self):
        for machine in MACHINES:
            for touch, (one, other) in enumerate(machine[1][:3]):
                rows = [[(0, 1)] * count for count in machine[0]]
                rows[one[0]][one[1]] = rows[other[0]][other[1]] = (1, 2)
                now = turned(machine, tuple(tuple(row) for row in rows))
                for at in range(4):
                    self.assertEqual(row_of(machine, touch, at), turned(machine, now))
                    now = beat(mirror(machine), now)

    def test_the_last_beat(self):
        chance = random.Random(111)
        for machine in (TWO_WHEELS, MOST_CELLS_ALONE):
            load = random_load(machine, chance)
            row = row_of(machine, 0, 300)
            self.assertEqual(paired(machine, row, load), readings(machine, behind(machine, load, 300), 1)[0][0])

    def test_refused(self):
        for thing in [2, -1, (0,)] + odd_things():
            self.assert_text(NoTouch, row_of, TWICE, thing, 0)
            self.assert_text(NoTouch, row_of, TWICE, thing, None)
        for thing in [-1, 301, 10 ** 500, True, False, 0.0, "0", (0,)] + odd_things():
            self.assert_text(OutOfPlace, row_of, TWICE, 0, thing)
        self.assert_text(NoTouch, row_of, LONELY, 0, 301)


class Looks(WheelTest):
    def test_by_hand(self):
        load = whole_load([1, 2], [5, 6, 7])
        told = (((3, 1),), ((4, 1),), ((5, 1),), ((7, 2),), ((9, 2),))
        self.assertEqual(looks(TWO_WHEELS, (0,), load, 5), told)
        self.assertEqual(looks(TWO_WHEELS, (0,), load, 1), told[:1])
        load = whole_load([4, 0, 0, 0], [0, 2, 1, 6, 0, 0])
        self.assertEqual(looks(TWICE, (0, 1), load, 2), (((3, 1), (3, 1)), ((1, 2), (0, 1))))
        self.assertEqual(looks(TWICE, (1,), load, 2), (((3, 1),), ((0, 1),)))

    def test_of_one_beat_and_of_many(self):
        chance = random.Random(112)
        for machine in touching():
            load, window = random_load(machine, chance), some_window(machine, chance)
            for beats in (1, 2, 30):
                told = looks(machine, window, load, beats)
                self.assertEqual([type(told), *map(type, told)], [tuple] * (beats + 1))
                self.assert_fractions(told)
                wanted = [tuple(row[touch] for touch in window) for row in readings(machine, load, beats)]
                self.assertEqual(list(told), wanted)

    def test_refused(self):
        load, bad = empty(TWICE), empty(TWO_WHEELS)
        for beats in (1, 0, None):
            self.assert_place(BadLoad, None, looks, TWICE, (0,), bad, beats)
            self.assert_place(BadLoad, (0, 1), looks, TWICE, (0,), (((0, 1), None) * 2, ((0, 1),) * 6), beats)
        for thing in odd_things():
            self.assert_place(BadLoad, None, looks, TWICE, (0,), thing, 1)
        for beats in NO_LOOK_BEATS + odd_things():
            self.assert_text(OutOfPlace, looks, TWICE, (0,), load, beats)
            self.assert_text(OutOfPlace, rank, TWICE, (0,), beats)


class Rank(WheelTest):
    def test_by_hand(self):
        self.assertEqual([rank(TWO_WHEELS, (0,), beats) for beats in range(1, 6)], [1, 2, 3, 3, 3])
        self.assertEqual([rank(HALF_ROUND, (0,), beats) for beats in (1, 2, 3, 4, 30)], [1, 2, 3, 3, 3])
        self.assertEqual([rank(NEIGHBOURS, (0, 1), beats) for beats in (1, 2, 3, 30)], [2, 2, 2, 2])
        self.assertEqual([rank(NEIGHBOURS, (1,), beats) for beats in (1, 2, 3, 30)], [1, 2, 2, 2])
        self.assertEqual(sees(TWO_WHEELS, (0,)), 3)
        self.assertEqual(sees(HALF_ROUND, (0,)), 3)
        self.assertEqual(sees(NEIGHBOURS, (0, 1)), 2)
        self.assertEqual(sees(((1, 1), (((0, 0), (1, 0)),)), (0,)), 1)

    def test_just_as_a_second_telling(self):
        chance = random.Random(113)
        for machine in touching()[::2]:
            window = some_window(machine, chance)
            rows = plain_rows(machine, window, 30)
            new = plain_echelon(rows)[0]
            for beats in (1, 2, 3, chance.randint(4, 29), 30):
                self.assertEqual(rank(machine, window, beats), sum(new[:beats * len(window)]))
            self.assertEqual(sees(machine, window), sum(new[:cells(machine) * len(window)]))

    def test_more_tell_no_less(self):
        for machine in (TWICE, SEVERAL_LOTS, CHAIN, MOST_WHEELS_ALL):
            many = len(machine[1])
            told = [sees(machine, tuple(range(at))) for at in range(1, many + 1)]
            self.assertEqual(told, sorted(told))
            self.assertLessEqual(told[-1], cells(machine))
            ranks = [rank(machine, tuple(range(many)), beats) for beats in range(1, 31)]
            self.assertEqual(ranks, sorted(ranks))
            self.assertEqual(ranks[-1], told[-1])

    def test_lots_are_seen_each_by_itself(self):
        one, other, both = sees(SEVERAL_LOTS, (0,)), sees(SEVERAL_LOTS, (1, 2)), sees(SEVERAL_LOTS, (0, 1, 2))
        self.assertEqual(one + other, both)

    def test_the_greatest_machines(self):
        for machine in GREAT:
            window = tuple(range(len(machine[1])))
            rows = plain_rows(machine, window, 30)
            self.assertEqual(rank(machine, window, 30), plain_rank(rows))
            self.assertEqual(sees(machine, window), plain_rank(rows[:cells(machine) * len(window)]))


class Shortest(WheelTest):
    def test_by_hand(self):
        half = Fraction(1, 2)
        self.assertEqual(shortest(HALF_ROUND, 0), fraction_rows([[0, 0, 1]])[0])
        self.assertEqual(shortest(TWO_WHEELS, 0), fraction_rows([[0, half, half]])[0])
        self.assertEqual(shortest(((1, 1), (((0, 0), (1, 0)),)), 0), ((1, 1),))
        self.assertEqual(shortest(ONE_CELL_TOUCHES, 0), fraction_rows([[half, 0, 0, half]])[0])
        self.assertEqual(shortest(UNEVEN_ROUND, 0), fraction_rows([[0, half, 0, 0, half]])[0])

    def test_nought_in_it(self):
        # All that is read dies but its mean: the rule goes on by noughts.
        for touch in (0, 1):
            told = shortest(NEIGHBOURS, touch)
            self.assertEqual(told, ((1, 1), (0, 1)))
        told = shortest(((4,), (((0, 0), (0, 2)), ((0, 1), (0, 3)))), 0)
        self.assertEqual(told, ((0, 1), (1, 1)))

    def test_by_it_each_reading(self):
        chance = random.Random(114)
        for machine in touching()[::2]:
            told = readings(machine, random_load(machine, chance), 70)
            for touch in range(len(machine[1])):
                row = [Fraction(*reading[touch]) for reading in told]
                rule = shortest(machine, touch)
                self.assertIs(type(rule), tuple)
                self.assert_fractions(rule)
                many = len(rule)
                for at in range(many, 70):
                    wanted = sum((Fraction(*by) * row[at - back - 1] for back, by in enumerate(rule)), Fraction(0))
                    self.assertEqual(row[at], wanted)

    def test_none_shorter(self):
        for machine in touching()[::2]:
            many_touches = len(machine[1])
            rows = plain_rows(machine, tuple(range(many_touches)), cells(machine) + 1)
            for touch in range(many_touches):
                many = len(shortest(machine, touch))
                mine = rows[touch::many_touches][:many + 1]
                self.assertEqual(plain_echelon(mine)[0], [True] * many + [False])
                self.assertEqual(sees(machine, (touch,)), many)

    def test_it_divides_d_and_one_less_y_to_the_g_divides_it(self):
        for machine in touching()[::2]:
            for touch, (one, _) in enumerate(machine[1]):
                rule = [(1, 1)] + [(-top, bottom) for top, bottom in shortest(machine, touch)]
                while rule[-1] == (0, 1):
                    rule.pop()
                self.assertEqual(divided_by(rule_of(machine, touch), tuple(rule))[1], ())
                self.assertEqual(divided_by(tuple(rule), one_less(g_of(machine, one[0])))[1], ())
                row = [reading[touch] for reading in readings(machine, one_at(machine, one), 60)]
                late = len(shortest(machine, touch)) - len(rule) + 1
                self.assertIs(follows(tuple(rule), row[late:]), True)

    def test_the_greatest_machines(self):
        for machine in GREAT:
            for touch in range(len(machine[1])):
                told = shortest(machine, touch)
                rows = plain_rows(machine, (touch,), len(told) + 1)
                made = [Fraction(0)] * cells(machine)
                for back, by in enumerate(told):
                    made = [worth + Fraction(*by) * more for worth, more in zip(made, rows[len(told) - back - 1])]
                self.assertEqual(made, rows[-1])

    def test_no_touch(self):
        for thing in [2, -1, (0,), 10 ** 500] + odd_things():
            self.assert_text(NoTouch, shortest, TWICE, thing)
        self.assert_text(NoTouch, shortest, LONELY, 0)


class NoMachine(WheelTest):
    def test_ahead_of_all_else(self):
        for thing in odd_things() + [((0,), ()), ((2, 3), [])]:
            for call, many in ((need_window, 1), (row_of, 2), (looks, 3), (rank, 2), (sees, 1), (shortest, 1)):
                with self.assertRaises(BadMachine):
                    call(thing, *[None] * many)
        for call, many in ((need_window, 1), (row_of, 2), (looks, 3), (rank, 2), (sees, 1), (shortest, 1)):
            self.assert_place(BadMachine, "counts", call, ((), ()), *[None] * many)

    def test_by_names_and_told_again(self):
        load = whole_load([1, 2], [5, 6, 7])
        self.assertIsNone(need_window(machine=TWO_WHEELS, window=(0,)))
        self.assertEqual(row_of(machine=TWO_WHEELS, touch=0, beat=1), row_of(TWO_WHEELS, 0, 1))
        self.assertEqual(looks(machine=TWO_WHEELS, window=(0,), load=load, beats=1), (((3, 1),),))
        self.assertEqual(rank(machine=TWO_WHEELS, window=(0,), beats=2), 2)
        self.assertEqual(sees(machine=TWO_WHEELS, window=(0,)), 3)
        self.assertEqual(shortest(machine=TWO_WHEELS, touch=0)[0], (0, 1))
        chance = random.Random(115)
        for machine in (TWICE, SEVERAL_LOTS, MOST_CELLS_ALONE):
            load = random_load(machine, chance)
            self.assert_told_again(need_window, machine, (0, 1))
            self.assert_told_again(row_of, machine, 1, 5)
            self.assert_told_again(looks, machine, (0, 1), load, 5)
            self.assert_told_again(rank, machine, (0, 1), 5)
            self.assert_told_again(sees, machine, (1,))
            self.assert_told_again(shortest, machine, 1)
