"""What fits what is SEEN: the LEAST LOAD, or the FIRST CLASH."""

import random
from fractions import Fraction

from evenwheels.errors import BadMachine, BadPaper, BadReadings, Never, NoTouch
from evenwheels.fits import check_clash, first_clash, least_load, need_seen
from evenwheels.loads import empty, is_load
from evenwheels.machines import cells
from evenwheels.windows import looks
from tests.support import (
    DEEP_LIST, DEEP_TUPLE, GREAT, HALF_ROUND, LONELY, MOST_CELLS_ALONE, NEIGHBOURS, SEVERAL_LOTS, TWICE, TWO_WHEELS,
    UNEVEN_ROUND, Same, WheelTest, flat_of, fraction_rows, odd_things, pair_of, plain_echelon, plain_rows, plain_silent,
    random_load, some_machines, some_window, whole_load, within_itself,
)

NO_FRACTIONS = [1, (1,), (1, 2, 3), (2, 4), (0, 2), (1, 0), (1, -2), (True, 1), (1, True), [1, 2], (1.0, 1), "12",
                None, DEEP_TUPLE, Same()]


def some_asked(seed, every):
    """Machines, windows of theirs, numbers of beats."""
    chance = random.Random(seed)
    machines = [machine for machine in some_machines() if machine[1]][::every]
    return [(machine, some_window(machine, chance), chance.choice([1, 2, 3, chance.randint(4, 30)]))
            for machine in machines]


def spoilt(seen, at, place, by):
    rows = [list(row) for row in seen]
    rows[at][place] = pair_of(Fraction(*rows[at][place]) + by)
    return tuple(tuple(row) for row in rows)


def first_that_can_t_be(rows, seen):
    """The number of the first look whose row is a sum of those ahead, but what is seen isn't."""
    new = plain_echelon(rows)[0]
    both = plain_echelon([row + [worth] for row, worth in zip(rows, flat_of(seen))])[0]
    return next((at for at in range(len(rows)) if both[at] and not new[at]), None)


class NeedSeen(WheelTest):
    def test_seen(self):
        one = ((1, 2), (-3, 1))
        for many in (1, 2, 29, 30):
            self.assertIsNone(need_seen(TWICE, (0, 1), (one,) * many))
            self.assertIsNone(need_seen(TWICE, (1,), (one[:1],) * many))

    def refused(self, number, seen, machine=TWICE, window=(0, 1)):
        for call in (need_seen, least_load, first_clash):
            self.assert_refused(BadReadings, {"number": number}, call, machine, window, seen)
        self.assert_refused(BadReadings, {"number": number}, check_clash, machine, window, seen, None)

    def test_no_tuple_of_1_to_30(self):
        one = ((0, 1), (0, 1))
        others = [(), (one,) * 31, (one,) * 300, [one], one[:0], "ab", {0: one}, {one: one}, (None,) * 31, DEEP_LIST]
        for thing in others + [thing for thing in odd_things() if type(thing) is not tuple]:
            self.refused(None, thing)

    def test_the_first_that_is_none(self):
        one = ((0, 1), (0, 1))
        others = [(), one[:1], one + one[:1], list(one), None, "ab", 0, (0, 1), DEEP_TUPLE, within_itself(), {0: 0, 1: 1},
                  ((0, 1), [0, 1]), ((0, 1), None), (None, (0, 1)), Same()]
        others += [(thing, (0, 1)) for thing in NO_FRACTIONS] + [((0, 1), thing) for thing in NO_FRACTIONS]
        for thing in others + odd_things():
            self.refused(0, (thing,))
            self.refused(0, (thing, None, one))
            self.refused(1, (one, thing))
            self.refused(29, (one,) * 29 + (thing,))
            self.refused(2, (one, one, thing, thing))

    def test_of_another_window(self):
        self.refused(0, (((0, 1),),))
        self.refused(0, (((0, 1), (0, 1)),), TWICE, (1,))
        self.refused(0, (((0, 1),) * 2,), MOST_CELLS_ALONE, (0, 3, 7))

    def test_windows_ahead(self):
        for window in [(), (0, 0), (1, 0), (2,), (True,), [0]] + odd_things():
            for call in (need_seen, least_load, first_clash):
                self.assert_text(NoTouch, call, TWICE, window, None)
                self.assert_text(NoTouch, call, TWICE, window, (((0, 1),),))
            self.assert_text(NoTouch, check_clash, TWICE, window, None, None)
        self.assert_text(NoTouch, need_seen, LONELY, (0,), (((0, 1),),))


class LeastLoad(WheelTest):
    def test_by_hand(self):
        self.assertEqual(least_load(TWO_WHEELS, (0,), (((3, 1),),)), whole_load([3, 0], [3, 0, 0]))
        self.assertEqual(least_load(TWO_WHEELS, (0,), (((3, 1),), ((-4, 1),))), whole_load([3, -4], [3, -4, 0]))
        self.assertEqual(least_load(HALF_ROUND, (0,), (((1, 2),), ((0, 1),), ((5, 1),))), (
            ((5, 1), (1, 2), (0, 1), (5, 1), (1, 2), (0, 1)),))
        # Rows of beats 0 and 2 meet at (0, 0) and (1, 0): a half, a fourth and a half.
        told = least_load(TWO_WHEELS, (0,), (((0, 1),), ((0, 1),), ((1, 1),)))
        self.assertEqual(told, fraction_rows([[0, 0], [0, 0, 2]]))

    def test_noughts_are_shown_by_noughts(self):
        for machine, window, beats in some_asked(120, 4):
            seen = ((((0, 1),) * len(window)),) * beats
            self.assertEqual(least_load(machine, window, seen), empty(machine))

    def test_the_same_looks_and_the_least(self):
        chance = random.Random(121)
        for machine, window, beats in some_asked(122, 2):
            load = random_load(machine, chance)
            seen = looks(machine, window, load, beats)
            told = least_load(machine, window, seen)
            self.assertTrue(is_load(machine, told))
            self.assertEqual(looks(machine, window, told, beats), seen)
            # A sum of rows alone is nought paired with all whose looks are nought, so it holds the least squares.
            rows = plain_rows(machine, window, beats)
            for silent in plain_silent(rows, cells(machine)):
                self.assertEqual(sum(worth * more for worth, more in zip(silent, flat_of(told))), 0)
            mine, yours = [sum(worth * worth for worth in flat_of(one)) for one in (told, load)]
            self.assertLessEqual(mine, yours)

    def test_never(self):
        self.assert_text(Never, least_load, HALF_ROUND, (0,), (((1, 1),), ((0, 1),), ((0, 1),), ((0, 1),)))
        self.assert_text(Never, least_load, TWO_WHEELS, (0,), (((0, 1),), ((0, 1),), ((0, 1),), ((1, 1),)))
        pair = ((1, 1), (((0, 0), (1, 0)),))
        self.assertEqual(least_load(pair, (0,), (((3, 1),), ((3, 1),))), whole_load([3], [3]))
        self.assert_text(Never, least_load, pair, (0,), (((3, 1),), ((2, 1),)))

    def test_great_fractions(self):
        chance = random.Random(123)
        seen = tuple(((chance.randint(-10 ** 40, 10 ** 40) * 2 + 1, 2 ** chance.randint(1, 90)),) for _ in range(9))
        told = least_load(MOST_CELLS_ALONE, (3,), seen)
        self.assertEqual(looks(MOST_CELLS_ALONE, (3,), told, 9), seen)

    def test_the_greatest_machines(self):
        chance = random.Random(124)
        for machine in GREAT:
            window = tuple(range(len(machine[1])))
            seen = looks(machine, window, random_load(machine, chance), 30)
            told = least_load(machine, window, seen)
            self.assertEqual(looks(machine, window, told, 30), seen)
            self.assert_text(Never, first_clash, machine, window, seen)
            rows = plain_rows(machine, window, 30)
            for silent in plain_silent(rows, cells(machine)):
                self.assertEqual(sum(worth * more for worth, more in zip(silent, flat_of(told))), 0)


class FirstClash(WheelTest):
    def test_by_hand(self):
        seen = (((1, 1),), ((0, 1),), ((0, 1),), ((0, 1),))
        self.assertEqual(first_clash(HALF_ROUND, (0,), seen), fraction_rows([[-1], [0], [0], [1]]))
        seen = (((0, 1),), ((0, 1),), ((0, 1),), ((1, 1),), ((7, 1),))
        half = Fraction(-1, 2)
        self.assertEqual(first_clash(TWO_WHEELS, (0,), seen), fraction_rows([[half], [half], [0], [1], [0]]))
        seen = (((1, 1),), ((1, 1),), ((0, 1),), ((1, 1),), ((7, 1),))
        self.assertEqual(first_clash(TWO_WHEELS, (0,), seen), fraction_rows([[0], [half], [half], [0], [1]]))

    def test_later_ones_of_a_beat_by_hand(self):
        machine, half = NEIGHBOURS, Fraction(-1, 2)
        seen = fraction_rows([[1, 3], [2, 5], [9, 9]])
        self.assertEqual(first_clash(machine, (0, 1), seen), fraction_rows([[half, half], [0, 1], [0, 0]]))
        seen = fraction_rows([[1, 3], [5, 2], [9, 9]])
        self.assertEqual(first_clash(machine, (0, 1), seen), fraction_rows([[half, half], [1, 0], [0, 0]]))
        seen = fraction_rows([[1, 3], [2, 2], [2, 9]])
        self.assertEqual(first_clash(machine, (0, 1), seen), fraction_rows([[half, half], [0, 0], [0, 1]]))

    def test_never(self):
        chance = random.Random(125)
        for machine, window, beats in some_asked(126, 2):
            seen = looks(machine, window, random_load(machine, chance), beats)
            self.assert_text(Never, first_clash, machine, window, seen)
        self.assert_text(Never, first_clash, TWO_WHEELS, (0,), (((5, 1),), ((-7, 1),), ((1, 3),)))

    def test_just_one_of_both(self):
        chance = random.Random(127)
        clashes = 0
        for machine, window, beats in some_asked(128, 1):
            seen = looks(machine, window, random_load(machine, chance), beats)
            for _ in range(2):
                seen = spoilt(seen, chance.randrange(beats), chance.randrange(len(window)), Fraction(1, 3))
            rows = plain_rows(machine, window, beats)
            first = first_that_can_t_be(rows, seen)
            if first is None:
                self.assertEqual(looks(machine, window, least_load(machine, window, seen), beats), seen)
                self.assert_text(Never, first_clash, machine, window, seen)
            else:
                self.assert_text(Never, least_load, machine, window, seen)
                self.check_first(machine, window, seen, rows, first)
                clashes += 1
        self.assertGreater(clashes, 20)

    def check_first(self, machine, window, seen, rows, first):
        paper = first_clash(machine, window, seen)
        self.assertIsNone(check_clash(machine, window, seen, paper))
        self.assertEqual((type(paper), len(paper)), (tuple, len(seen)))
        self.assertEqual({(type(row), len(row)) for row in paper}, {(tuple, len(window))})
        self.assert_fractions(paper)
        weights = flat_of(paper)
        new = plain_echelon(rows)[0]
        self.assertEqual(weights[first], 1)
        for at, weight in enumerate(weights):
            if at != first and (at > first or not new[at]):
                self.assertEqual(weight, 0)
        made = [sum(by * row[place] for by, row in zip(weights, rows)) for place in range(cells(machine))]
        self.assertEqual(set(made), {0})

    def test_the_greatest_machines(self):
        chance = random.Random(129)
        for machine in GREAT:
            window = tuple(range(len(machine[1])))
            rows = plain_rows(machine, window, 30)
            load = random_load(machine, chance)
            for at in (29, 0):
                seen = spoilt(looks(machine, window, load, 30), at, len(window) - 1, Fraction(-1, 10 ** 9))
                self.assert_text(Never, least_load, machine, window, seen)
                self.check_first(machine, window, seen, rows, first_that_can_t_be(rows, seen))


class CheckClash(WheelTest):
    def setUp(self):
        self.seen = (((0, 1),), ((0, 1),), ((0, 1),), ((1, 1),), ((7, 1),))
        self.good = (((-1, 2),), ((-1, 2),), ((0, 1),), ((1, 1),), ((0, 1),))

    def refused(self, place, paper, seen=None):
        seen = self.seen if seen is None else seen
        self.assert_place(BadPaper, place, check_clash, TWO_WHEELS, (0,), seen, paper)

    def test_the_first_and_others(self):
        self.assertIsNone(check_clash(TWO_WHEELS, (0,), self.seen, self.good))
        self.assertEqual(first_clash(TWO_WHEELS, (0,), self.seen), self.good)
        for by in (Fraction(2), Fraction(-1, 3), Fraction(10 ** 30, 7)):
            paper = tuple((pair_of(by * Fraction(*row[0])),) for row in self.good)
            self.assertIsNone(check_clash(TWO_WHEELS, (0,), self.seen, paper))
        later = fraction_rows([[0], [Fraction(-1, 2)], [Fraction(-1, 2)], [0], [1]])
        self.assertIsNone(check_clash(TWO_WHEELS, (0,), self.seen, later))
        both = fraction_rows([[-1], [Fraction(-1, 2)], [Fraction(1, 2)], [2], [-1]])
        self.assertIsNone(check_clash(TWO_WHEELS, (0,), self.seen, both))

    def test_of_several_touches(self):
        machine, window = NEIGHBOURS, (0, 1)
        seen = fraction_rows([[1, 3], [2, 5]])
        half = Fraction(-1, 2)
        for weights in ([[half, half], [0, 1]], [[0, 0], [1, -1]], [[half, half], [2, -1]]):
            self.assertIsNone(check_clash(machine, window, seen, fraction_rows(weights)))
        for weights in ([[half, half], [1, 0]], [[0, 0], [0, 0]]):
            self.assert_place(BadPaper, "seen", check_clash, machine, window, seen, fraction_rows(weights))
        for weights in ([[half, half], [0, 0]], [[half, 0], [0, 1]], [[-half, -half], [0, 1]], [[0, 0], [1, 1]]):
            self.assert_place(BadPaper, "rows", check_clash, machine, window, seen, fraction_rows(weights))

    def test_no_weights(self):
        others = [(), self.good[:4], self.good + (((0, 1),),), list(self.good), None, "abcde", {0: 0},
                  tuple(list(row) for row in self.good), tuple(row * 2 for row in self.good), ((),) * 5,
                  tuple(row[0] for row in self.good), (None,) * 5, DEEP_TUPLE, DEEP_LIST]
        for paper in others + odd_things():
            self.refused(None, paper)
        for at in range(5):
            for thing in NO_FRACTIONS + odd_things():
                self.refused(None, self.good[:at] + ((thing,),) + self.good[at + 1:])
                self.refused(None, self.good[:at] + (thing,) + self.good[at + 1:])

    def test_rows(self):
        for at in range(5):
            changed = self.good[:at] + ((pair_of(Fraction(*self.good[at][0]) + 1),),) + self.good[at + 1:]
            self.refused("rows", changed)
            if self.good[at] != ((0, 1),):
                self.refused("rows", self.good[:at] + (((0, 1),),) + self.good[at + 1:])
        self.refused("rows", self.good[1:] + self.good[:1])
        self.refused("rows", (((1, 1),),) * 5)
        self.refused("rows", (((1, 1),),), (((0, 1),),))

    def test_seen(self):
        self.refused("seen", (((0, 1),),) * 5)
        self.refused("seen", self.good, (((0, 1),),) * 5)
        self.refused("seen", self.good, (((1, 1),), ((1, 1),), ((0, 1),), ((1, 1),), ((7, 1),)))
        self.refused("seen", (((0, 1),),), (((5, 1),),))
        load = whole_load([1, -2], [5, 6, 7])
        self.refused("seen", self.good, looks(TWO_WHEELS, (0,), load, 5))

    def test_rows_ahead_of_seen(self):
        self.refused("rows", (((1, 1),),) + (((0, 1),),) * 4, (((0, 1),),) * 5)

    def test_what_can_be_is_no_clash(self):
        chance = random.Random(130)
        for machine, window, beats in some_asked(131, 4):
            seen = looks(machine, window, random_load(machine, chance), beats)
            bad = spoilt(seen, beats - 1, len(window) - 1, Fraction(5, 7))
            try:
                paper = first_clash(machine, window, bad)
            except Never:
                continue
            self.assertIsNone(check_clash(machine, window, bad, paper))
            self.assert_place(BadPaper, "seen", check_clash, machine, window, seen, paper)


class NoMachine(WheelTest):
    def test_ahead_of_all_else(self):
        for thing in odd_things() + [((0,), ()), ((2, 3), [])]:
            for call, many in ((need_seen, 2), (least_load, 2), (first_clash, 2), (check_clash, 3)):
                with self.assertRaises(BadMachine):
                    call(thing, *[None] * many)
        for call, many in ((need_seen, 2), (least_load, 2), (first_clash, 2), (check_clash, 3)):
            self.assert_place(BadMachine, "counts", call, ((), ()), *[None] * many)

    def test_by_names_and_told_again(self):
        seen, bad = (((3, 1),),), (((0, 1),), ((0, 1),), ((0, 1),), ((1, 1),))
        self.assertIsNone(need_seen(machine=TWO_WHEELS, window=(0,), seen=seen))
        self.assertEqual(least_load(machine=TWO_WHEELS, window=(0,), seen=seen), whole_load([3, 0], [3, 0, 0]))
        paper = first_clash(machine=TWO_WHEELS, window=(0,), seen=bad)
        self.assertIsNone(check_clash(machine=TWO_WHEELS, window=(0,), seen=bad, paper=paper))
        self.assert_told_again(need_seen, TWO_WHEELS, (0,), seen)
        self.assert_told_again(first_clash, TWO_WHEELS, (0,), bad)
        self.assert_told_again(check_clash, TWO_WHEELS, (0,), bad, paper)
        chance = random.Random(132)
        for machine in (TWICE, SEVERAL_LOTS, UNEVEN_ROUND):
            seen = looks(machine, (0,), random_load(machine, chance), 7)
            self.assert_told_again(least_load, machine, (0,), seen)
